"""Views: columns of a body that are shown under names."""

from shownwrites.closures import split
from shownwrites.errors import BadName, DuplicateName, NotKeyed, NothingShown, ShownTwice
from shownwrites.refusals import NoName
from shownwrites.rows import derivations, numbers_at, shown_by
from shownwrites.tables import is_name


def shown_heads(body, shown):
    """The heads of the classes that are shown by their names, in the order given."""
    if len(shown) == 0:
        raise NothingShown()
    heads = {}
    for name, column in shown:
        if not is_name(name):
            raise BadName(name)
        if name in heads:
            raise DuplicateName(name)
        head = body.head(column)
        if head in list(heads.values()):
            raise ShownTwice(column)
        heads[name] = head
    return heads


class View:
    """A body with shown columns, each under a name."""

    def __init__(self, body, shown):
        heads = shown_heads(body, shown)
        parted = split(body, list(heads.values()))
        if parted is not None:
            raise NotKeyed(parted)
        self.body = body
        self.names = tuple(heads)
        self.heads = tuple(heads.values())
        self._spots = [body.spot_of(head) for head in self.heads]

    def __call__(self, store):
        return self.rows(store)

    def rows(self, store):
        """The rows in the store, in ascending order."""
        return sorted([self.shown_of(found) for found in derivations(self.body, store)])

    def head_of(self, name):
        """The head of the class that is shown under the name."""
        if name not in self.names:
            raise NoName(name)
        return self.heads[self.names.index(name)]

    def shown_of(self, derivation):
        """The row that the derivation shows."""
        return numbers_at(derivation, self._spots)

    def origin(self, store, row):
        """The derivation that shows the row."""
        return shown_by(self.body, store, self.heads, row)[0]
