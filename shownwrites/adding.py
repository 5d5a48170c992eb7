"""Adding a row: the least sets of rows to insert."""

from shownwrites.bodies import fixed_numbers, known_names, table_of
from shownwrites.edits import Edit
from shownwrites.parts import linked_names, part_body, subsets
from shownwrites.rows import agreeing_rows, counted, matched, numbers_at, table_rows
from shownwrites.writes import Add, wanted


def adds(view, store, row, tables):
    """The least meanings of the Add that insert rows into these tables."""
    names = known_names(view.body, tables)
    write = Add(row)
    wanted(view, store, write)
    search = Search(view, store, write.row)
    for size in range(1, len(names) + 1):
        found = [search.insertions(chosen) for chosen in subsets(names, size)]
        told = sorted([changes for some, _ in found for changes in some])
        untold = [changes for _, some in found for changes in some]
        if len(told) > 0 or len(untold) > 0:
            edits = [Edit(changes) for changes in told]
            sample = edits[0] if len(edits) > 0 else Edit(untold[0])
            return Adding(size, edits, len(untold) > 0, sample)
    return Adding(None, [], False, None)


def standing_numbers(body, lists, head):
    """The numbers that stand in the class of the head in the rows of the tables."""
    spots = [body.spot_of(column) for members in body.classes if members[0] == head
             for column in members]
    return sorted(set([row[at] for place, at in spots for row in lists[body.names[place]]]))


def outer_spots(body, part):
    """The open classes that link a part of the body to other tables, with their spots in the part."""
    spots = {}
    for members in body.classes:
        inside = [column for column in members if table_of(column) in part.names]
        if body.fixed(members[0]) is None and 0 < len(inside) < len(members):
            spots[members[0]] = part.spot_of(inside[0])
    return spots


def are_met(checks, numbers):
    """True if the classes have numbers that are offered just as often as each check demands."""
    for times, offers in checks:
        count = 1
        for heads, counts in offers:
            count = count * counts.get(tuple([numbers[head] for head in heads]), 0)
        if count != times:
            return False
    return True


class Search:
    """A search for the insertions that add a row to a view in a store.

    An insertion makes one new derivation. Some of its rows stand in the store already; the others
    are inserted. The classes that only the inserted rows have are free to have any number.
    """

    def __init__(self, view, store, row):
        body = view.body
        heads = [members[0] for members in body.classes]
        self._body = body
        self._store = store
        self._lists = dict(zip(body.names, table_rows(body, store)))
        self._known = fixed_numbers(body)
        self._known.update(dict(zip(view.heads, row)))
        hidden = [head for head in heads if head not in self._known]
        standing = {head: standing_numbers(body, self._lists, head) for head in hidden}
        self._standing = {head: [number for number in standing[head] if number in body.region(head)]
                          for head in hidden}
        self._fresh = {head: body.region(head).members(1, apart=standing[head])[0]
                       for head in hidden}
        self._offers = {}

    def insertions(self, names):
        """The meanings that insert a row into each of these tables, and into no other one.

        These are the told ones, and for each choice of the other rows one that is not told, if
        there is any. Both are lists of lists of changes.
        """
        checks = self._checks(names)
        told = []
        untold = []
        for numbers in self._kept_numbers(names):
            free = [head for head in self._standing if head not in numbers]
            fresh = {**numbers, **{head: self._fresh[head] for head in free}}
            found = [fresh] if self._works(names, checks, fresh) else []
            if len(free) > 0:
                untold.extend([self._changes(names, some) for some in found])
            # A number that stands somewhere meets more rows than a fresh one: what does not work
            # beside fresh numbers works beside no others.
            for head in free:
                tried = [{**some, head: number} for some in found for number in self._standing[head]]
                found = [some for some in tried if self._works(names, checks, some)]
            told.extend([self._changes(names, some) for some in found])
        return (told, untold)

    def _kept_numbers(self, names):
        """The numbers of the classes for each choice of rows of the tables that stay as they are."""
        body = self._body
        others = [name for name in body.names if name not in names]
        if len(others) == 0:
            return [self._known]
        heads = [body.heads_of(name) for name in others]
        lists = [agreeing_rows(body, name, self._lists[name], self._known) for name in others]
        part = part_body(body, others)
        return [{**self._known, **{head: number for some, row in zip(heads, found)
                                   for head, number in zip(some, row)}}
                for found in matched(part, lists)]

    def _works(self, names, checks, numbers):
        """True if inserting rows with these numbers makes one new derivation."""
        for name in names:
            key = tuple([numbers[head] for head in self._body.key_heads(name)])
            if self._store.row_at(name, key) is not None:
                return False
        return are_met(checks, numbers)

    def _changes(self, names, numbers):
        """The changes that insert rows with these numbers, in ascending order."""
        rows = {name: tuple([numbers[head] for head in self._body.heads_of(name)]) for name in names}
        return sorted([(name, self._store.table_of(name).key_of(rows[name]), None, rows[name])
                       for name in names])

    def _checks(self, names):
        """How often rows of the store may go with the rows that are inserted into some of the tables.

        With all inserted rows just those go that the new derivation keeps; with fewer of them none.
        """
        return [(1 if used == names else 0, self._offers_beside(used))
                for size in range(1, len(names) + 1) for used in subsets(names, size)]

    def _offers_beside(self, names):
        """What the groups of linked tables beside these ones offer to them."""
        body = self._body
        others = [name for name in body.names if name not in names]
        heads = {name: [head for head in body.heads_of(name) if body.fixed(head) is None]
                 for name in others}
        return [self._offer(group) for group in linked_names(others, heads)]

    def _offer(self, group):
        """The classes that link the tables to others, and how often rows have which numbers there."""
        if group not in self._offers:
            part = part_body(self._body, group)
            spots = outer_spots(self._body, part)
            near = {head: self._known[head] for head in spots if head in self._known}
            lists = [agreeing_rows(self._body, name, self._lists[name], near) for name in part.names]
            places = list(spots.values())
            numbers = [numbers_at(found, places) for found in matched(part, lists)]
            self._offers[group] = (tuple(spots), counted(numbers))
        return self._offers[group]


class Adding:
    """The least meanings of an Add."""

    def __init__(self, count, told, endless, sample):
        self.count = count
        self.told = told
        self.endless = endless
        self.sample = sample
