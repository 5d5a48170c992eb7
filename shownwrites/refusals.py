"""The errors of writes, sums, rules, books and desks. Each keeps its arguments as attributes."""

from shownwrites.errors import ShownError


class WrongKind(ShownError):
    """A write to a view is put to sums, or one to sums to a view."""

    def __init__(self, kind):
        self.kind = kind


class WrongLength(ShownError):
    """The row or the group has too few or too many numbers."""

    def __init__(self, row):
        self.row = row


class AlreadyShown(ShownError):
    """The row that a write would show is shown already."""

    def __init__(self, row):
        self.row = row


class NoName(ShownError):
    """No column and no total is shown under this name."""

    def __init__(self, name):
        self.name = name


class OutOfRegion(ShownError):
    """The value is not in the region of the class that is shown under the name."""

    def __init__(self, name, value):
        self.name = name
        self.value = value


class NoDifference(ShownError):
    """The value is the one that is shown already."""

    def __init__(self, value):
        self.value = value


class InvalidSums(ShownError):
    """A by column or a total of sums is wrong."""

    def __init__(self, name):
        self.name = name


class NotTotal(ShownError):
    """The column may not be totalled."""

    def __init__(self, column):
        self.column = column


class InvalidRule(ShownError):
    """A part of the rules is wrong."""

    def __init__(self, part):
        self.part = part


class NoRule(ShownError):
    """The rules say nothing about writes like this one."""

    def __init__(self, kind):
        self.kind = kind


class NoMeaning(ShownError):
    """The rules find no meaning of the write."""

    def __init__(self, write):
        self.write = write


class InvalidBook(ShownError):
    """A book cannot have this table, view or rules."""

    def __init__(self, name):
        self.name = name


class BadLine(ShownError):
    """A line of a text is wrong."""

    def __init__(self, line, reason):
        self.line = line
        self.reason = reason


class NoView(ShownError):
    """There is no shown view of this name."""

    def __init__(self, name):
        self.name = name


class WrongStore(ShownError):
    """The store has not exactly the tables of the book."""


class NothingToUndo(ShownError):
    """There is no edit to take back."""


class NothingToRedo(ShownError):
    """There is no edit to do again."""


class Kept(ShownError):
    """The rows of a kept view would change."""

    def __init__(self, name):
        self.name = name


class NotKept(ShownError):
    """The view is not kept."""

    def __init__(self, name):
        self.name = name
