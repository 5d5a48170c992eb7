"""Verdicts of drops, clears, totals and adds: what can become of them in any store."""

from shownwrites.bodies import known_names, table_of
from shownwrites.cases import Case, Verdict
from shownwrites.changing import totals
from shownwrites.closures import closure, derivations_apart, store_of, store_without
from shownwrites.dropping import clears, drops
from shownwrites.edits import Edit
from shownwrites.regions import Region, member_outside
from shownwrites.rows import with_number
from shownwrites.stores import Store
from shownwrites.writes import Add, Clear, Drop, Total


def drop_verdict(view, names):
    """The verdict of dropping rows by deleting rows of these tables."""
    permitted = known_names(view.body, names)
    first, lone, crowd = deletion_stores(view.body, view.heads, permitted)
    row = view.shown_of(first)
    return deletion_verdict(Drop(row), lone, crowd, drops(view, lone, row, permitted))


def clear_verdict(sums, names):
    """The verdict of clearing groups by deleting rows of these tables."""
    permitted = known_names(sums.body, names)
    first, lone, crowd = deletion_stores(sums.body, sums.by_heads, permitted)
    group = sums.group_of(first)
    return deletion_verdict(Clear(group), lone, crowd, clears(sums, lone, group, permitted))


def deletion_stores(body, heads, permitted):
    """A derivation, a store with it alone, and one in which no permitted row is its own, or None."""
    reached = [closure(body, body.heads_of(name)) for name in permitted]
    found = derivations_apart(body, reached)
    lone = store_of(body, found[:1])
    if any([all([head in some for head in heads]) for some in reached]):
        return (found[0], lone, None)
    return (found[0], lone, store_of(body, found))


def deletion_verdict(write, lone, crowd, meanings):
    """The verdict of deletions, from the least meanings in the store with one derivation alone."""
    none = None if crowd is None else Case(crowd, write, [])
    some = Case(lone, write, meanings[:1]) if len(meanings) > 0 else None
    several = Case(lone, write, meanings[:2]) if len(meanings) > 1 else None
    return Verdict(none, some, several)


def total_verdict(sums, name):
    """The verdict of setting the total of this name."""
    column = sums.total_heads[sums.total_at(name)]
    none = total_without_meaning(sums, name, column)
    several = shared_totals(sums, name)
    return Verdict(none, lone_total(sums, name, column), several[0] if len(several) > 0 else None)


def lone_total(sums, name, column):
    """A case in which the total is that of one row, which can take any number of the region."""
    body = sums.body
    found = derivations_apart(body, [])
    store = store_of(body, found)
    group = sums.group_of(found[0])
    value = body.region(column).members(1, apart=[present_total(sums, store, group, name)])[0]
    return Case(store, Total(group, name, value), totals(sums, store, group, name, value))


def present_total(sums, store, group, name):
    """The total of this name that the group has in the store."""
    return [numbers[sums.total_at(name)] for other, _, numbers in sums.rows(store) if other == group][0]


def shared_totals(sums, name):
    """Two cases in which either of two rows can take a difference, or no case if there is none.

    In the one case the row with the greater key has the greater number, in the other one the lesser.
    """
    body = sums.body
    column = sums.total_heads[sums.total_at(name)]
    reached = closure(body, sums.by_heads)
    if all([head in reached for head in body.key_heads(table_of(column))]):
        return []
    found = derivations_apart(body, [reached])
    spot = body.spot_of(column)
    numbers = [number_at(derivation, spot) for derivation in found]
    turned = [with_number_at(derivation, spot, number) for derivation, number in zip(found, numbers[::-1])]
    return [shared_total(sums, name, column, some) for some in (found, turned)]


def shared_total(sums, name, column, found):
    """A case in which rows of both of two derivations of one group can take a difference."""
    store = store_of(sums.body, found)
    group, count, numbers = sums.rows(store)[0]
    # Each of the two rows stands in half of the derivations of the group.
    step = count if sums.body.region(column).high is None else -count
    value = numbers[sums.total_at(name)] + step
    meanings = totals(sums, store, group, name, value)
    # Either row may meet numbers that the region leaves out, but these are finitely many.
    while len(meanings) < 2:
        value = value + step
        meanings = totals(sums, store, group, name, value)
    return Case(store, Total(group, name, value), meanings)


def total_without_meaning(sums, name, column):
    """A case in which no row can take the difference alone, or None."""
    body = sums.body
    reached = closure(body, body.heads_of(table_of(column)))
    number = member_outside(Region(), body.region(column))
    if len(reached) < len(body.classes):
        # The table has one row. It stands in several derivations, so it cannot take a difference of 1 alone.
        found = derivations_apart(body, [reached])
        store = store_of(body, found)
        number = present_total(sums, store, sums.group_of(found[0]), name) + 1
    elif number is None:
        return None
    else:
        found = derivations_apart(body, [])
        store = store_of(body, found)
    return Case(store, Total(sums.group_of(found[0]), name, number), [])


def number_at(derivation, spot):
    """The number at a spot of the derivation."""
    place, at = spot
    return derivation[place][at]


def with_number_at(derivation, spot, number):
    """The derivation with another number at a spot."""
    place, at = spot
    return with_number(derivation, place, with_number(derivation[place], at, number))


def add_verdict(view, names):
    """The verdict of adding rows by inserting rows into these tables."""
    permitted = known_names(view.body, names)
    others = [name for name in view.body.names if name not in permitted]
    none = add_beside_nothing(view) if len(others) > 0 else blocked_add(view)
    if len(permitted) == 0:
        return Verdict(none, None, None)
    return Verdict(none, lone_add(view, permitted), open_add(view, permitted, others))


def insertion_of(body, names, derivation):
    """The edit that inserts the derivation's rows into these tables."""
    return Edit([(table.name, table.key_of(row), None, row)
                 for table, row in zip(body.tables, derivation) if table.name in names])


def lone_add(view, permitted):
    """A case in which all permitted tables are empty, and the others have the rows that are needed."""
    first = derivations_apart(view.body, [])[0]
    store = store_without(view.body, [(first, permitted)])
    return Case(store, Add(view.shown_of(first)), [insertion_of(view.body, permitted, first)])


def open_add(view, permitted, others):
    """A case in which two derivations could be the one that shows the added row, or None."""
    body = view.body
    reached = closure(body, view.heads, using=others)
    if all([head in reached for name in permitted for head in body.heads_of(name)]):
        return None
    found = derivations_apart(body, [reached])
    store = store_without(body, [(derivation, permitted) for derivation in found])
    changes = sorted([insertion_of(body, permitted, derivation).changes for derivation in found])
    return Case(store, Add(view.shown_of(found[0])), [Edit(some) for some in changes])


def add_beside_nothing(view):
    """A case without any rows, of which none may be inserted into some table."""
    first = derivations_apart(view.body, [])[0]
    return Case(Store(view.body.tables), Add(view.shown_of(first)), [])


def blocked_add(view):
    """A case in which each table may be inserted into, but the rows that are there do not allow it."""
    for table in view.body.tables:
        for column in table.columns:
            if column not in table.key:
                case = add_beside_wrong_number(view, table.name, f"{table.name}.{column}")
                if case is not None:
                    return case
    for table in view.body.tables:
        if brings_others(view, table):
            return add_with_another(view, table.name)
    return None


def add_beside_wrong_number(view, name, column):
    """A case in which a row has the key that is needed, but another number in the column, or None."""
    body = view.body
    first = derivations_apart(body, [])[0]
    spot = body.spot_of(column)
    number = member_outside(Region(), body.region(column))
    others = [other for other in body.names if other != name]
    if number is None and body.head(column) not in closure(body, view.heads, using=others):
        return None
    if number is None:
        number = number_at(first, spot) + 1
    store = store_of(body, [with_number_at(first, spot, number)])
    return Case(store, Add(view.shown_of(first)), [])


def brings_others(view, table):
    """True if a row of the table can complete several derivations, whatever it has beside its key."""
    body = view.body
    shown = [head for head in view.heads if body.fixed(head) is None]
    if all([head in body.key_heads(table.name) for head in shown]):
        return False
    others = [f"{table.name}.{column}" for column in table.columns if column not in table.key]
    return all([(column,) in body.classes for column in others])


def add_with_another(view, name):
    """A case in which the missing row of the table would complete another derivation besides."""
    reached = closure(view.body, view.body.heads_of(name))
    found = derivations_apart(view.body, [reached])
    store = store_without(view.body, [(derivation, [name]) for derivation in found])
    return Case(store, Add(view.shown_of(found[0])), [])
