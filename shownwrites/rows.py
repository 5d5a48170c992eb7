"""Derivations: rows of a body's tables that belong together."""

from shownwrites.errors import NoTable, NotShown, Unlike


def derivations(body, store):
    """The derivations of the body in the store, in ascending order of their keys."""
    return joined(body, table_rows(body, store))


def walk(body, store):
    """A generator of the derivations in the order of their keys."""
    lists = table_rows(body, store)
    yield from matched(body, lists)


def class_values(body, derivation):
    """The numbers that the classes have in the derivation, in class order."""
    return numbers_at(derivation, [body.spot_of(members[0]) for members in body.classes])


def numbers_at(derivation, spots):
    """The numbers that stand in the derivation at these spots."""
    return tuple([derivation[place][at] for place, at in spots])


def deriving(body, store, name, row):
    """The derivations in which the table has this row, in the order of their keys."""
    return joined(body, lists_with(body, store, name, row))


def stands_once(body, store, name, row):
    """True if the table has this row in just one derivation."""
    lists = lists_with(body, store, name, row)
    count = 0
    # Counted one by one, because a row may stand in very many derivations.
    for _ in matched(body, lists):
        count = count + 1
        if count > 1:
            return False
    return count == 1


def lists_with(body, store, name, row):
    """The rows of each table of the body, but of this one the given row alone, if it has it."""
    if name not in body.names:
        raise NoTable(name)
    lists = table_rows(body, store)
    place = body.names.index(name)
    return [*lists[:place], [held for held in lists[place] if held == row], *lists[place + 1:]]


def shown_by(body, store, heads, row):
    """The derivations, at least one, in which the classes of the heads have the row's numbers."""
    if len(row) != len(heads):
        raise NotShown(row)
    lists = agreeing_lists(body, store, {head: row[at] for at, head in enumerate(heads)})
    found = joined(body, lists)
    if len(found) == 0:
        raise NotShown(row)
    return found


def agreeing_lists(body, store, numbers):
    """The rows of each table of the body that have the numbers of their classes that are given."""
    lists = table_rows(body, store)
    return [agreeing_rows(body, name, rows, numbers) for name, rows in zip(body.names, lists)]


def agreeing_rows(body, name, rows, numbers):
    """The rows of a table that have the numbers of its classes that are given."""
    spots = [(at, numbers[head]) for at, head in enumerate(body.heads_of(name)) if head in numbers]
    return [row for row in rows if all([row[at] == number for at, number in spots])]


def with_number(numbers, at, number):
    """The numbers with another one at this place."""
    return (*numbers[:at], number, *numbers[at + 1:])


def derivation_with(body, numbers):
    """The derivation in which the classes have these numbers, which are given by the heads."""
    return tuple([tuple([numbers[head] for head in body.heads_of(name)]) for name in body.names])


def table_rows(body, store):
    """The rows in the store of each table of the body."""
    for table in body.tables:
        if store.table_of(table.name) != table:
            raise Unlike(table.name)
    return [store[name] for name in body.names]


def joined(body, lists):
    """The derivations whose rows stand in the lists, one for each table."""
    groups, owners, trees = linked_trees(body, lists)
    return joined_behind(lists, groups, owners, trees, ())


def matched(body, lists):
    """A generator of the same derivations in the same order, for those who may not need all of them."""
    groups, owners, trees = linked_trees(body, lists)
    yield from branches(lists, groups, owners, trees, ())


def linked_trees(body, lists):
    """The rows of each table by their links, the number of its part, and a tree of each part."""
    links = [linking_places(body, name) for name in body.names]
    groups = [rows_by_links(body, place, rows, links[place]) for place, rows in enumerate(lists)]
    parts = linked_parts(links)
    trees = [tree_of_part(links, groups, part) for part in parts]
    owners = {place: at for at, part in enumerate(parts) for place in part}
    # Otherwise, a part without rows would be found anew behind each choice of the others.
    if any([len(tree) == 0 for tree in trees]):
        return (groups, owners, [{} for _ in trees])
    return (groups, owners, trees)


def linking_places(body, name):
    """The heads of the classes that link the table, with their places in its rows."""
    linking = [members[0] for members in body.classes if len(members) > 1]
    heads = list(enumerate(body.heads_of(name)))
    # A fixed class links nothing: all rows that are allowed have its one value.
    return {head: at for at, head in heads if head in linking and body.fixed(head) is None}


def rows_by_links(body, place, rows, links):
    """The places in the list of the allowed rows, by their values in the linking classes."""
    heads = list(enumerate(body.heads_of(body.names[place])))
    regions = [(at, body.region(head)) for at, head in heads]
    spots = list(links.values())
    allowed = [(number, row) for number, row in enumerate(rows)
               if all([row[at] in region for at, region in regions])]
    return grouped([(tuple([row[at] for at in spots]), number) for number, row in allowed])


def grouped(pairs):
    """The second members of the pairs by their first ones, both in ascending order."""
    ordered = sorted(pairs)
    starts = [at for at in range(len(ordered)) if at == 0 or ordered[at - 1][0] != ordered[at][0]]
    groups = {}
    for start, end in zip(starts, [*starts[1:], len(ordered)]):
        groups[ordered[start][0]] = [second for _, second in ordered[start:end]]
    return groups


def counted(values):
    """How often each of the values occurs."""
    counts = {}
    for value in values:
        counts[value] = counts.get(value, 0) + 1
    return counts


def linked_parts(links):
    """The places of the tables in parts, so that no class links tables of two parts."""
    parts = []
    for place, heads in enumerate(links):
        near = [part for part in parts if touches(links, part, heads)]
        far = [part for part in parts if part not in near]
        parts = [*far, sorted([place, *[other for part in near for other in part]])]
    return parts


def touches(links, part, heads):
    """True if one of the classes links a table of the part."""
    return any([head in links[place] for place in part for head in heads])


def joining_order(links, groups, part):
    """The tables of a part, each linked with an earlier one; small ones come early."""
    left = [place for _, place in sorted([(len(groups[place]), place) for place in part])]
    order = []
    while len(left) > 0:
        linked = [place for place in left if touches(links, order, links[place])]
        taken = linked[0] if len(linked) > 0 else left[0]
        order.append(taken)
        left = [place for place in left if place != taken]
    return order


def linked_numbers(links, groups, part):
    """The classes that link a part, and the tuples of numbers that they can have at once."""
    known = []
    found = [()]
    for place in joining_order(links, groups, part):
        heads = list(links[place])
        found = extended(known, found, heads, list(groups[place]))
        known = [*known, *[head for head in heads if head not in known]]
    return (known, found)


def extended(known, found, heads, values):
    """Each found tuple with the further numbers of each of the values that agree with it."""
    shared = [(known.index(head), at) for at, head in enumerate(heads) if head in known]
    fresh = [at for at, head in enumerate(heads) if head not in known]
    index = grouped([(tuple([numbers[at] for _, at in shared]),
                      tuple([numbers[at] for at in fresh])) for numbers in values])
    return [(*old, *new) for old in found
            for new in index.get(tuple([old[spot] for spot, _ in shared]), ())]


def tree_of_part(links, groups, part):
    """The values of the part's tables that occur together, as a tree."""
    known, found = linked_numbers(links, groups, part)
    return tree_of([[known.index(head) for head in links[place]] for place in part], found)


def tree_of(spots, found):
    """The found numbers at the first spots; below each of them the tree of the further spots."""
    if len(spots) == 0:
        return {}
    groups = grouped([(tuple([numbers[at] for at in spots[0]]), numbers) for numbers in found])
    return {values: tree_of(spots[1:], groups[values]) for values in groups}


def choices(group, tree):
    """The numbers of the rows that a tree begins with, ascending, each with the tree below it."""
    values_of = {number: values for values in tree for number in group[values]}
    return [(number, tree[values_of[number]]) for number in sorted(list(values_of))]


def joined_behind(lists, groups, owners, trees, chosen):
    """The derivations that begin with the chosen rows, of which at least one is missing."""
    place = len(chosen)
    owner = owners[place]
    pairs = choices(groups[place], trees[owner])
    if place + 1 == len(lists):
        return [(*chosen, lists[place][number]) for number, _ in pairs]
    found = []
    for number, tree in pairs:
        deeper = [*trees[:owner], tree, *trees[owner + 1:]]
        longer = (*chosen, lists[place][number])
        found.extend(joined_behind(lists, groups, owners, deeper, longer))
    return found


def branches(lists, groups, owners, trees, chosen):
    """A generator of the same derivations; what is behind a choice of a row is found when it is reached."""
    place = len(chosen)
    if place + 1 == len(lists):
        yield from joined_behind(lists, groups, owners, trees, chosen)
        return
    owner = owners[place]
    for number, tree in choices(groups[place], trees[owner]):
        deeper = [*trees[:owner], tree, *trees[owner + 1:]]
        longer = (*chosen, lists[place][number])
        yield from branches(lists, groups, owners, deeper, longer)
