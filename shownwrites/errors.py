"""The errors of the package. Each keeps its arguments as attributes."""


class ShownError(ValueError):
    """The base class of all errors of the package."""


class NoTable(ShownError):
    """There is no table of this name."""

    def __init__(self, name):
        self.name = name


class NoColumn(ShownError):
    """The body has no such column."""

    def __init__(self, column):
        self.column = column


class BadName(ShownError):
    """The string is not a name."""

    def __init__(self, name):
        self.name = name


class DuplicateName(ShownError):
    """An earlier shown column has this name."""

    def __init__(self, name):
        self.name = name


class DuplicateTable(ShownError):
    """An earlier table has this name."""

    def __init__(self, name):
        self.name = name


class BadCount(ShownError):
    """There are too few or too many of something."""

    def __init__(self, count):
        self.count = count


class BadSign(ShownError):
    """The string is not the sign of a condition."""

    def __init__(self, sign):
        self.sign = sign


class TooFew(ShownError):
    """A region has fewer members than this."""

    def __init__(self, count):
        self.count = count


class InvalidTable(ShownError):
    """A table cannot have this name, these columns or this key."""

    def __init__(self, name):
        self.name = name


class InvalidRow(ShownError):
    """The table cannot have this row at this place."""

    def __init__(self, name, row):
        self.name = name
        self.row = row


class DuplicateKey(ShownError):
    """An earlier row of the table has this key."""

    def __init__(self, name, key):
        self.name = name
        self.key = key


class InvalidChange(ShownError):
    """The change has the same row before and after."""

    def __init__(self, change):
        self.change = change


class SamePlace(ShownError):
    """An earlier change of the edit has this place."""

    def __init__(self, place):
        self.place = place


class Clash(ShownError):
    """The second edit does not begin where the first one ends."""

    def __init__(self, place):
        self.place = place


class NoChange(ShownError):
    """The edit has no change at this place."""

    def __init__(self, place):
        self.place = place


class Misfit(ShownError):
    """The store does not have there what the edit expects."""

    def __init__(self, place):
        self.place = place


class Unlike(ShownError):
    """The table of this name is not the same in both."""

    def __init__(self, name):
        self.name = name


class SameTable(ShownError):
    """A class would have two columns of this table."""

    def __init__(self, name):
        self.name = name


class Empty(ShownError):
    """The region of the column's class has no member."""

    def __init__(self, column):
        self.column = column


class Narrow(ShownError):
    """The region of the column's class has several, but finitely many members."""

    def __init__(self, column):
        self.column = column


class NothingShown(ShownError):
    """No column is shown."""


class ShownTwice(ShownError):
    """An earlier shown column belongs to the same class."""

    def __init__(self, column):
        self.column = column


class NotKeyed(ShownError):
    """Two derivations can show the same row."""

    def __init__(self, split):
        self.split = split


class NotShown(ShownError):
    """The row or group is not shown."""

    def __init__(self, row):
        self.row = row


class KeyCell(ShownError):
    """The column belongs to the key of its table."""

    def __init__(self, column):
        self.column = column


class NotPossible(ShownError):
    """These tables cannot be inside at once."""

    def __init__(self, names):
        self.names = names


class OtherNames(ShownError):
    """The two show different names."""


class OtherView(ShownError):
    """The rules are made for different views."""


class FixedColumn(ShownError):
    """The class of the column is fixed."""

    def __init__(self, column):
        self.column = column


class MustShow(ShownError):
    """The class of the column is not among those that must be shown."""

    def __init__(self, column):
        self.column = column
