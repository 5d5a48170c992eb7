"""Edits: sets of changes of rows at different places."""

from shownwrites.errors import Clash, InvalidChange, NoChange, SamePlace


def placed_changes(changes):
    """The changes by their places."""
    placed = {}
    for change in changes:
        name, key, before, after = change
        if before == after:
            raise InvalidChange(change)
        if (name, key) in placed:
            raise SamePlace((name, key))
        placed[(name, key)] = change
    return placed


def joined_changes(first, second):
    """The changes of the edit that does what the first and then the second one does."""
    changes = [change for change in first.changes if (change[0], change[1]) not in second]
    for name, key, middle, after in second.changes:
        place = (name, key)
        before, found = first[place] if place in first else (middle, middle)
        if found != middle:
            raise Clash(place)
        if before != after:
            changes.append((name, key, before, after))
    return changes


class Edit:
    """A set of changes; each is a table name, a key, a row before and a row after."""

    def __init__(self, changes=()):
        self._placed = placed_changes(changes)
        self.changes = tuple([self._placed[place] for place in sorted(list(self._placed))])

    def __add__(self, other):
        return Edit(joined_changes(self, other))

    def __neg__(self):
        return Edit([(name, key, after, before) for name, key, before, after in self.changes])

    def __eq__(self, other):
        return isinstance(other, Edit) and self.changes == other.changes

    def __len__(self):
        return len(self.changes)

    def __iter__(self):
        return iter(self.changes)

    def __contains__(self, x):
        return x in self._placed

    def __getitem__(self, at):
        if at not in self._placed:
            raise NoChange(at)
        change = self._placed[at]
        return (change[2], change[3])

    @property
    def deletes(self):
        """The number of changes that delete a row."""
        return len([change for change in self.changes if change[3] is None])

    @property
    def inserts(self):
        """The number of changes that insert a row."""
        return len([change for change in self.changes if change[2] is None])

    @property
    def sets(self):
        """The number of changes that set numbers of a row."""
        return len(self.changes) - self.deletes - self.inserts

    def within(self, other):
        """True if each change of this edit is a change of the other one."""
        return all([other._placed.get(place) == self._placed[place] for place in self._placed])
