"""Bodies: tables whose rows belong together by links and conditions."""

from shownwrites.errors import BadCount, DuplicateTable, Empty, Narrow, NoColumn, NoTable, SameTable
from shownwrites.regions import Region, meet

MOST_TABLES = 6


def check_tables(tables):
    """Raise an error if a body cannot have these tables."""
    if len(tables) == 0 or len(tables) > MOST_TABLES:
        raise BadCount(len(tables))
    names = {}
    for table in tables:
        if table.name in names:
            raise DuplicateTable(table.name)
        names[table.name] = True


def column_spots(tables):
    """The columns of the tables in their order, each with its table's place and its place in it."""
    spots = {}
    for place, table in enumerate(tables):
        for at, column in enumerate(table.columns):
            spots[f"{table.name}.{column}"] = (place, at)
    return spots


def table_of(column):
    """The name of the table of a known column."""
    return column.partition(".")[0]


def joined_class(spots, first, second):
    """The class that a link between columns of two classes makes of them."""
    new = [column for column in second if column not in first]
    joined = sorted([*first, *new], key=lambda column: spots[column])
    owners = [table_of(column) for column in joined]
    for owner in owners:
        if owners.count(owner) > 1:
            raise SameTable(owner)
    return tuple(joined)


def linked_classes(spots, links):
    """The classes that the links make, in class order."""
    classes = {column: (column,) for column in spots}
    for first, second in links:
        for column in (first, second):
            if column not in classes:
                raise NoColumn(column)
        joined = joined_class(spots, classes[first], classes[second])
        for column in joined:
            classes[column] = joined
    return tuple([classes[column] for column in spots if classes[column][0] == column])


def class_regions(heads, conditions):
    """The region of each class by its head, in class order."""
    parts = {heads[column]: [] for column in heads}
    for column, sign, number in conditions:
        if column not in heads:
            raise NoColumn(column)
        parts[heads[column]].append(Region.of(sign, number))
    return {head: meet(parts[head]) for head in parts}


def check_regions(regions):
    """Raise an error for the first region that is neither fixed nor endless."""
    for head in regions:
        if regions[head].size == 0:
            raise Empty(head)
        if regions[head].size is not None and regions[head].size > 1:
            raise Narrow(head)


def known_names(body, names):
    """The tables of the body with these names, in its order; raises an error for another name."""
    for name in names:
        if name not in body.names:
            raise NoTable(name)
    return tuple([name for name in body.names if name in names])


def fixed_numbers(body):
    """The numbers of the fixed classes by their heads."""
    heads = [members[0] for members in body.classes]
    return {head: body.fixed(head) for head in heads if body.fixed(head) is not None}


def is_key_column(body, column):
    """True if a known column stands in the key of its table."""
    place, at = body.spot_of(column)
    table = body.tables[place]
    return table.columns[at] in table.key


class Body:
    """One to six tables with links between their columns and conditions on them."""

    def __init__(self, tables, links=(), conditions=()):
        check_tables(tables)
        self.tables = tuple(tables)
        self.names = tuple([table.name for table in tables])
        self._spots = column_spots(tables)
        self.classes = linked_classes(self._spots, links)
        self._heads = {column: members[0] for members in self.classes for column in members}
        self._regions = class_regions(self._heads, conditions)
        check_regions(self._regions)
        heads = [members[0] for members in self.classes]
        self.open_heads = tuple([head for head in heads if self._regions[head].size is None])

    def __eq__(self, other):
        return (isinstance(other, Body) and self.tables == other.tables
                and self.classes == other.classes and self._regions == other._regions)

    def head(self, column):
        """The head of the column's class."""
        if column not in self._heads:
            raise NoColumn(column)
        return self._heads[column]

    def region(self, column):
        """The region of the column's class."""
        return self._regions[self.head(column)]

    def fixed(self, column):
        """The value of the column's class if it is fixed, otherwise None."""
        return self.region(column).value

    def spot_of(self, column):
        """The place of a known column's table in the body, and its own place in the table."""
        return self._spots[column]

    def heads_of(self, name):
        """The heads of the table's columns, in the order of the columns."""
        return self._heads_in(name, self._table(name).columns)

    def key_heads(self, name):
        """The heads of the columns of the table's key, in the order of the columns."""
        return self._heads_in(name, self._table(name).key)

    def _table(self, name):
        """The table of this name."""
        if name not in self.names:
            raise NoTable(name)
        return self.tables[self.names.index(name)]

    def _heads_in(self, name, columns):
        """The heads of some columns of a table."""
        return tuple([self._heads[f"{name}.{column}"] for column in columns])
