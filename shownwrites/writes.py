"""Writes to views and sums: what they want to be shown, and which edits do it."""

from shownwrites.errors import InvalidRow, Misfit, NoTable, NotShown
from shownwrites.refusals import AlreadyShown, NoDifference, OutOfRegion, WrongKind, WrongLength
from shownwrites.rows import with_number
from shownwrites.views import View

VIEW_KINDS = ("drop", "add", "change")


def wanted(shown, store, write):
    """The rows that the shown view has if the write is done, in ascending order."""
    if isinstance(shown, View) != (write.kind in VIEW_KINDS):
        raise WrongKind(write.kind)
    if isinstance(shown, View):
        return wanted_in_view(shown, store, write)
    return wanted_in_sums(shown, store, write)


def wanted_in_view(view, store, write):
    """The rows that the view has if the write is done."""
    if len(write.row) != len(view.names):
        raise WrongLength(write.row)
    rows = view.rows(store)
    if write.kind == "add":
        check_regions(view, write.row)
        return with_row(rows, write.row)
    if write.row not in rows:
        raise NotShown(write.row)
    left = [row for row in rows if row != write.row]
    if write.kind == "drop":
        return left
    return with_row(left, changed_row(view, write))


def check_regions(view, row):
    """Raise an error for the first number of the row that its class cannot have."""
    for at, head in enumerate(view.heads):
        if row[at] not in view.body.region(head):
            raise OutOfRegion(view.names[at], row[at])


def with_row(rows, row):
    """The rows, and a row that is not shown yet."""
    if row in rows:
        raise AlreadyShown(row)
    return sorted([*rows, row])


def changed_row(view, write):
    """The row that results from a Change."""
    if write.value not in view.body.region(view.head_of(write.name)):
        raise OutOfRegion(write.name, write.value)
    return replaced(write.row, view.names.index(write.name), write.value)


def replaced(numbers, at, value):
    """The numbers with another one at this place."""
    if numbers[at] == value:
        raise NoDifference(value)
    return with_number(numbers, at, value)


def wanted_in_sums(sums, store, write):
    """The rows that the sums have if the write is done."""
    if len(write.group) != len(sums.by_names):
        raise WrongLength(write.group)
    rows = sums.rows(store)
    found = [row for row in rows if row[0] == write.group]
    if len(found) == 0:
        raise NotShown(write.group)
    left = [row for row in rows if row[0] != write.group]
    if write.kind == "clear":
        return left
    return sorted([*left, retotalled(sums, found[0], write)])


def retotalled(sums, row, write):
    """The row of sums that results from a Total."""
    group, count, totals = row
    return (group, count, replaced(totals, sums.total_at(write.name), write.value))


def is_meaning(shown, store, write, edit):
    """True if the edit is a meaning of the write in the store."""
    rows = wanted(shown, store, write)
    if not is_in_form(shown, write, edit):
        return False
    after = store_after(store, edit)
    return after is not None and shown.rows(after) == rows


def is_in_form(shown, write, edit):
    """True if the edit changes tables of the body, and in the way of such a write."""
    if not all([name in shown.body.names for name, _, _, _ in edit.changes]):
        return False
    if write.kind == "add":
        return edit.inserts == len(edit)
    if write.kind in ("drop", "clear"):
        return edit.deletes == len(edit)
    return len(edit) == 1 and edit.sets == 1 and is_one_cell(shown, write, edit.changes[0])


def is_one_cell(shown, write, change):
    """True if the change is one of a single column, and for a Total of the totalled one."""
    name, _, before, after = change
    heads = shown.body.heads_of(name)
    changed = [head for head, old, new in zip(heads, before, after) if old != new]
    if write.kind == "change":
        return len(changed) == 1
    return changed == [shown.total_heads[shown.total_at(write.name)]]


def store_after(store, edit):
    """The store after the edit, or None if the edit does not fit it."""
    try:
        return store + edit
    except (NoTable, InvalidRow, Misfit):
        return None


class Write:
    """A write to a view or to sums, with its arguments."""

    def __init__(self, kind, given):
        self.kind = kind
        self._given = given

    def __eq__(self, other):
        return isinstance(other, Write) and self.kind == other.kind and self._given == other._given


class Drop(Write):
    """The row is no longer shown."""

    def __init__(self, row):
        self.row = tuple(row)
        Write.__init__(self, "drop", (self.row,))


class Add(Write):
    """The row is shown besides."""

    def __init__(self, row):
        self.row = tuple(row)
        Write.__init__(self, "add", (self.row,))


class Change(Write):
    """The row is shown with another value under a name."""

    def __init__(self, row, name, value):
        self.row = tuple(row)
        self.name = name
        self.value = value
        Write.__init__(self, "change", (self.row, name, value))


class Total(Write):
    """The total of this name has this value for the group."""

    def __init__(self, group, name, value):
        self.group = tuple(group)
        self.name = name
        self.value = value
        Write.__init__(self, "total", (self.group, name, value))


class Clear(Write):
    """The group is no longer shown."""

    def __init__(self, group):
        self.group = tuple(group)
        Write.__init__(self, "clear", (self.group,))
