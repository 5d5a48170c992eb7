"""Verdicts of changes: what can become of a change of a shown name in any store."""

from shownwrites.bodies import fixed_numbers, table_of
from shownwrites.cases import Case, Verdict
from shownwrites.changing import check_cells
from shownwrites.closures import closure, derivations_apart, in_class_order, store_of, store_without
from shownwrites.edits import Edit
from shownwrites.rows import derivation_with
from shownwrites.writes import Change, is_meaning


def change_verdict(view, name, cells):
    """The verdict of changes of the shown name that edit one of these cells."""
    head = view.head_of(name)
    check_cells(view.body, cells)
    if view.body.fixed(head) is not None:
        return Verdict(None, None, None)
    # Only cells that can be edited in some store at all can be edited in a store with other choices.
    working = [cell for cell in sorted(set(cells)) if case_with(view, name, [cell]) is not None]
    pairs = [[first, second] for at, first in enumerate(working) for second in working[at:]]
    some = first_case(view, name, [[cell] for cell in working])
    return Verdict(change_to_new_number(view, name, cells), some, first_case(view, name, pairs))


def first_case(view, name, tried):
    """The first case in which each cell of a list can be edited, or None if no list has one."""
    for cells in tried:
        case = case_with(view, name, cells)
        if case is not None:
            return case
    return None


def change_to_new_number(view, name, cells):
    """A case of a change to a number that stands nowhere, if no cell can do it, or None."""
    body = view.body
    head = view.head_of(name)
    found = derivations_apart(body, [])
    # A column that is alone in its class needs no other row with the new number.
    if (head,) in body.classes and head in cells:
        reached = closure(body, body.heads_of(table_of(head)))
        if len(reached) == len(body.classes):
            return None
        found = derivations_apart(body, [reached])
    row = view.shown_of(found[0])
    number = body.region(head).members(1, apart=[row[view.names.index(name)]])[0]
    return Case(store_of(body, found), Change(row, name, number), [])


def case_with(view, name, cells):
    """A case in which each of the cells (one cell, perhaps twice, or two) can be edited, or None.

    The store has the rows of a first derivation, and for each cell those of another one, except in
    the cell's table. The other derivations agree with the first one, and with one another, in as
    few classes as possible. The fewer agree, the fewer rows go with others, and any further row
    that is shown would be in the way. So no other choice of equal values can do it if this one cannot.
    """
    body = view.body
    agreed = agreements(view, name, cells)
    if not are_apart(body, view.head_of(name), cells, agreed):
        return None
    found = derivations_that_agree(body, len(cells) + 1, agreed)
    absent = [(), *[(table_of(cell),) for cell in cells]]
    store = store_without(body, list(zip(found, absent)))
    new = view.shown_of(found[1])
    if new in view.rows(store):
        return None
    write = Change(view.shown_of(found[0]), name, new[view.names.index(name)])
    changes = [cell_change(body, cell, found[0], other) for cell, other in zip(cells, found[1:])]
    edits = [Edit([change]) for change in sorted(changes)]
    if not all([is_meaning(view, store, write, edit) for edit in edits]):
        return None
    return Case(store, write, edits)


def cell_change(body, cell, first, other):
    """The change of a cell of the first derivation's row to the number that the other one has."""
    place = body.spot_of(cell)[0]
    table = body.tables[place]
    return (table.name, table.key_of(first[place]), first[place], other[place])


def agreements(view, name, cells):
    """The least sets of classes in which the derivations of a case agree, by pairs of their numbers.

    Number 0 is the first derivation, number n the one for the cell with the number n - 1.
    """
    body = view.body
    kept = [head for head in view.heads if head != view.head_of(name)]
    agreed = {}
    using = {}
    for at, cell in enumerate(cells, start=1):
        owner = table_of(cell)
        beside = [head for head in body.heads_of(owner) if head != body.head(cell)]
        agreed[(0, at)] = in_class_order(body, [*kept, *beside])
        using[(0, at)] = [other for other in body.names if other != owner]
    if len(cells) == 2:
        owners = [table_of(cell) for cell in cells]
        agreed[(1, 2)] = in_class_order(body, view.heads)
        using[(1, 2)] = [other for other in body.names if other not in owners]
    wider = widened(body, agreed, using)
    while wider != agreed:
        agreed = wider
        wider = widened(body, agreed, using)
    return agreed


def widened(body, agreed, using):
    """The sets of classes with those that must be equal besides.

    Rows with the same key are the same, and what equals the same number is equal.
    """
    reached = {pair: closure(body, agreed[pair], using=using[pair]) for pair in agreed}
    classes = [members[0] for members in body.classes]
    twice = [head for head in classes if len([pair for pair in reached if head in reached[pair]]) > 1]
    return {pair: in_class_order(body, [*reached[pair], *twice]) for pair in reached}


def are_apart(body, head, cells, agreed):
    """True if the derivations differ where they must: in the changed class and in their cells."""
    for at, cell in enumerate(cells, start=1):
        if head in agreed[(0, at)] or body.head(cell) in agreed[(0, at)]:
            return False
    # One cell twice stands for two numbers of it.
    return len(cells) == 1 or cells[0] != cells[1] or body.head(cells[0]) not in agreed[(1, 2)]


def derivations_that_agree(body, count, agreed):
    """That many derivations that have the same values in just the classes that are given."""
    found = []
    for at in range(count):
        numbers = fixed_numbers(body)
        for head in body.open_heads:
            equal = [other for other in range(at) if head in agreed[(other, at)]]
            numbers[head] = body.region(head).members(count)[equal[0] if len(equal) > 0 else at]
        found.append(derivation_with(body, numbers))
    return found
