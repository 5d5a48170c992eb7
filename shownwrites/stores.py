"""Stores: tables with rows that have different keys."""

from shownwrites.edits import Edit
from shownwrites.errors import DuplicateKey, DuplicateTable, InvalidRow, Misfit, NoTable, Unlike


def sorted_tables(tables):
    """The tables in ascending order of their names."""
    named = {}
    for table in tables:
        if table.name in named:
            raise DuplicateTable(table.name)
        named[table.name] = table
    return tuple([named[name] for name in sorted(list(named))])


def filled_shelves(tables, rows):
    """A shelf for each table by its name, with the rows that are given for it."""
    names = [table.name for table in tables]
    for name in sorted(list(rows)):
        if name not in names:
            raise NoTable(name)
    return {table.name: shelf_of(table, rows.get(table.name, ())) for table in tables}


def shelf_of(table, rows):
    """A shelf with the rows, which is made already when a store is made from another one."""
    if isinstance(rows, Shelf):
        return rows
    held = {}
    for row in rows:
        key = table.key_of(row)
        if key in held:
            raise DuplicateKey(table.name, key)
        held[key] = row
    return Shelf({key: held[key] for key in sorted(list(held))})


def check_change(store, change):
    """Raise an error if the change cannot be made in the store."""
    name, key, before, after = change
    table = store.table_of(name)
    if after is not None and table.key_of(after) != key:
        raise InvalidRow(name, after)
    if store.row_at(name, key) != before:
        raise Misfit((name, key))


def changed_shelves(store, edit):
    """The shelves of the store after an edit that fits it."""
    touched = sorted(set([change[0] for change in edit.changes]))
    shelves = {name: store.shelf(name) for name in store.names}
    new = {name: shelves[name].changed([change for change in edit.changes if change[0] == name])
           for name in touched}
    return {name: new.get(name, shelves[name]) for name in store.names}


def changes_between(before, after):
    """The changes that lead from the one store to the other one."""
    changes = []
    for name in before.names:
        old = before.shelf(name).held
        new = after.shelf(name).held
        keys = [*old, *[key for key in new if key not in old]]
        for key in keys:
            if old.get(key) != new.get(key):
                changes.append((name, key, old.get(key), new.get(key)))
    return changes


class Shelf:
    """The rows of one table by their keys, in ascending order of the keys."""

    def __init__(self, held):
        self.held = held

    def __eq__(self, other):
        return isinstance(other, Shelf) and self.held == other.held

    def changed(self, changes):
        """The shelf after changes that fit it."""
        new = {key: after for _, key, _, after in changes}
        old = [key for key in self.held if key not in new]
        keys = sorted([*old, *[key for key in new if new[key] is not None]])
        return Shelf({key: new.get(key, self.held.get(key)) for key in keys})


class Store:
    """Tables with different names, and for each of them rows with different keys."""

    def __init__(self, tables, rows=None):
        self.tables = sorted_tables(tables)
        self.names = tuple([table.name for table in self.tables])
        self._shelves = filled_shelves(self.tables, {} if rows is None else rows)

    def __eq__(self, other):
        return (isinstance(other, Store) and self.tables == other.tables
                and self._shelves == other._shelves)

    def __len__(self):
        return len([key for name in self._shelves for key in self._shelves[name].held])

    def __iter__(self):
        raise TypeError("a store is not iterated over: take the rows of its tables")

    def __contains__(self, x):
        name, key = x
        return name in self._shelves and key in self._shelves[name].held

    def __getitem__(self, at):
        return list(self.shelf(at).held.values())

    def __add__(self, other):
        for change in other.changes:
            check_change(self, change)
        return Store(self.tables, changed_shelves(self, other))

    def __sub__(self, other):
        for name in sorted(set([*self.names, *other.names])):
            if name not in self.names or name not in other.names:
                raise Unlike(name)
            if self.table_of(name) != other.table_of(name):
                raise Unlike(name)
        return Edit(changes_between(other, self))

    def shelf(self, name):
        """The shelf with the rows of a table."""
        if name not in self._shelves:
            raise NoTable(name)
        return self._shelves[name]

    def table_of(self, name):
        """The table of this name."""
        if name not in self.names:
            raise NoTable(name)
        return self.tables[self.names.index(name)]

    def row_at(self, name, key):
        """The row with this key, or None."""
        return self.shelf(name).held.get(key)
