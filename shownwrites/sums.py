"""Sums: the derivations of a body by groups, with their numbers and totals."""

from shownwrites.bodies import is_key_column
from shownwrites.refusals import InvalidSums, NoName, NotTotal
from shownwrites.rows import derivations, grouped, numbers_at, shown_by
from shownwrites.tables import is_name

COUNT = "count"


def check_name(name, names):
    """Raise an error if a by column or a total cannot have the name beside the other ones."""
    if not is_name(name) or name == COUNT or name in names:
        raise InvalidSums(name)


def named_by(body, by):
    """The heads of the by columns by their names."""
    heads = {}
    for name, column in by:
        check_name(name, list(heads))
        head = body.head(column)
        if head in list(heads.values()):
            raise InvalidSums(name)
        heads[name] = head
    return heads


def named_totals(body, by_heads, totals):
    """The heads of the totalled columns by their names, given those of the by columns."""
    heads = {}
    for name, column in totals:
        check_name(name, [*by_heads, *heads])
        head = body.head(column)
        barred = [*list(by_heads.values()), *list(heads.values())]
        if head in barred or not may_be_totalled(body, column):
            raise NotTotal(column)
        heads[name] = head
    return heads


def may_be_totalled(body, column):
    """True if the column stands in no key, and is the only one of a class that is open."""
    alone = (column,) in body.classes and not is_key_column(body, column)
    return alone and body.fixed(column) is None


class Sums:
    """The derivations of a body by groups, each with its number of them and its totals."""

    def __init__(self, body, by, totals):
        by_heads = named_by(body, by)
        total_heads = named_totals(body, by_heads, totals)
        self.body = body
        self.by_names = tuple(by_heads)
        self.total_names = tuple(total_heads)
        self.by_heads = tuple(by_heads.values())
        self.total_heads = tuple(total_heads.values())
        self._by_spots = [body.spot_of(head) for head in self.by_heads]
        self._total_spots = [body.spot_of(head) for head in self.total_heads]

    def __call__(self, store):
        return self.rows(store)

    def rows(self, store):
        """The groups in ascending order, each with its number of derivations and its totals."""
        groups = grouped([(self.group_of(found), numbers_at(found, self._total_spots))
                          for found in derivations(self.body, store)])
        return [(group, len(groups[group]), self._totals(groups[group])) for group in groups]

    def total_at(self, name):
        """The place of the total of this name among the totals."""
        if name not in self.total_names:
            raise NoName(name)
        return self.total_names.index(name)

    def group_of(self, derivation):
        """The group of the derivation."""
        return numbers_at(derivation, self._by_spots)

    def origins(self, store, group):
        """The derivations of the group, in the order of their keys."""
        return shown_by(self.body, store, self.by_heads, group)

    def divided(self, store, group):
        """The derivations of the group, and all others."""
        found = derivations(self.body, store)
        inside = [rows for rows in found if self.group_of(rows) == group]
        return (inside, [rows for rows in found if self.group_of(rows) != group])

    def _totals(self, listed):
        """The sums of the numbers at each place of the listed tuples."""
        return tuple([sum([numbers[at] for numbers in listed])
                      for at, _ in enumerate(self.total_heads)])
