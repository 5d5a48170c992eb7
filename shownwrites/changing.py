"""Changing one cell: the meanings of changes of shown values and of totals."""

from shownwrites.bodies import is_key_column
from shownwrites.edits import Edit
from shownwrites.errors import KeyCell
from shownwrites.rows import agreeing_lists, counted, grouped, matched, with_number
from shownwrites.writes import Change, Total, changed_row, wanted


def changes(view, store, row, name, value, cells):
    """The meanings of the Change that edit one of these cells, in ascending order."""
    check_cells(view.body, cells)
    write = Change(row, name, value)
    wanted(view, store, write)
    found = [change for column in sorted(set(cells))
             for change in changes_of_cell(view, store, write, column)]
    return [Edit([change]) for change in sorted(found)]


def check_cells(body, cells):
    """Raise an error for the first cell that is no column of the body or a key column."""
    for column in cells:
        body.head(column)
        if is_key_column(body, column):
            raise KeyCell(column)


def changes_of_cell(view, store, write, column):
    """The changes of the column in a row of the origin that are meanings of the Change."""
    body = view.body
    place, at = body.spot_of(column)
    old = view.origin(store, write.row)[place]
    target = changed_row(view, write)
    shown = agreeing_lists(body, store, dict(zip(view.heads, target)))
    tried = [with_number(old, at, number) for number in new_numbers(view, store, write, column)]
    likely = list(shown_through(view, shown, place, tried))
    kept = dict(zip(body.heads_of(body.names[place]), old))
    del kept[body.head(column)]
    found = shown_through(view, agreeing_lists(body, store, kept), place, [old, *likely])
    rows = sorted([target, *[other for other in found[old] if other != write.row]])
    table = body.tables[place]
    return [(table.name, table.key_of(old), old, new) for new in likely if found[new] == rows]


def new_numbers(view, store, write, column):
    """The numbers that could be set in the column, which is no key column, to do the Change."""
    head = view.body.head(column)
    if head == view.head_of(write.name):
        return [write.value]
    # The row that is wanted has the old value of each other shown class.
    if head in view.heads:
        return []
    return standing_elsewhere(view.body, store, column)


def standing_elsewhere(body, store, column):
    """The numbers that another column of the column's class has in the store, if there is one."""
    linked = [members for members in body.classes if column in members]
    others = [other for other in linked[0] if other != column]
    if len(others) == 0:
        return []
    place, at = body.spot_of(others[0])
    return sorted(set([row[at] for row in store[body.names[place]]]))


def shown_through(view, lists, place, rows):
    """The rows that are shown through each of these rows of the table at this place."""
    replaced = [*lists[:place], rows, *lists[place + 1:]]
    return grouped([(found[place], view.shown_of(found)) for found in matched(view.body, replaced)])


def totals(sums, store, group, name, value):
    """The meanings of the Total, in ascending order."""
    write = Total(group, name, value)
    wanted(sums, store, write)
    column = sums.total_heads[sums.total_at(name)]
    place, at = sums.body.spot_of(column)
    inside, outside = sums.divided(store, write.group)
    rows = [found[place] for found in inside]
    kept = {found[place]: True for found in outside}
    counts = counted([row for row in rows if row not in kept])
    difference = value - sum([row[at] for row in rows])
    changed = [(row, with_number(row, at, row[at] + difference // counts[row]))
               for row in counts if difference % counts[row] == 0]
    region = sums.body.region(column)
    table = sums.body.tables[place]
    found = [(table.name, table.key_of(old), old, new) for old, new in changed if new[at] in region]
    return [Edit([change]) for change in sorted(found)]
