"""Tables: names, columns and keys."""

from shownwrites.errors import InvalidRow, InvalidTable

FIRST = "abcdefghijklmnopqrstuvwxyz"
FURTHER = "abcdefghijklmnopqrstuvwxyz0123456789_"
LONGEST = 20


def is_name(text):
    """True if the string is a name."""
    if len(text) == 0 or len(text) > LONGEST:
        return False
    return text[0] in FIRST and all([letter in FURTHER for letter in text])


def are_columns(columns):
    """True if a table can have these columns."""
    distinct = len(columns) > 0 and len(set(columns)) == len(columns)
    return distinct and all([is_name(column) for column in columns])


def is_key(key, columns):
    """True if a table with these columns can have this key."""
    distinct = len(key) > 0 and len(set(key)) == len(key)
    return distinct and all([column in columns for column in key])


class Table:
    """A table: its name, its columns, and its key in the order of the columns."""

    def __init__(self, name, columns, key):
        if not (is_name(name) and are_columns(columns) and is_key(key, columns)):
            raise InvalidTable(name)
        self.name = name
        self.columns = tuple(columns)
        self.key = tuple([column for column in columns if column in key])
        self._key_places = tuple([at for at, column in enumerate(columns) if column in key])

    def __eq__(self, other):
        return (isinstance(other, Table) and self.name == other.name
                and self.columns == other.columns and self.key == other.key)

    def fits(self, row):
        """True if the row has as many numbers as the table has columns."""
        return len(row) == len(self.columns)

    def key_of(self, row):
        """The key of the row."""
        if not self.fits(row):
            raise InvalidRow(self.name, row)
        return tuple([row[at] for at in self._key_places])
