"""Closures: the classes whose values follow from those of some columns."""

from shownwrites.bodies import fixed_numbers, known_names
from shownwrites.rows import derivation_with
from shownwrites.stores import Store


def closure(body, columns, *, using=None):
    """The heads of the closure, in class order; only keys of the tables in `using` count."""
    known = known_at_first(body, columns)
    names = body.names if using is None else known_names(body, using)
    fresh = [head for _, heads in taken_steps(body, known, names) for head in heads]
    return in_class_order(body, [*known, *fresh])


def steps(body, columns):
    """How the closure is reached: the tables that are taken, and the heads that each adds."""
    return taken_steps(body, known_at_first(body, columns), body.names)


def split(body, columns):
    """A store with two derivations that agree on the closure alone, or None if that is all."""
    reached = closure(body, columns)
    if len(reached) == len(body.classes):
        return None
    first, second = derivations_apart(body, [reached])
    return Split(store_of(body, [first, second]), first, second)


def derivations_apart(body, agreed):
    """A derivation, and for each of the sets of heads one that agrees with it just there.

    Each of them has values of its own in all other classes.
    """
    fixed = fixed_numbers(body)
    numbers = {head: body.region(head).members(len(agreed) + 1) for head in body.open_heads}
    first = {head: numbers[head][0] for head in numbers}
    others = [{head: numbers[head][0 if head in heads else at] for head in numbers}
              for at, heads in enumerate(agreed, start=1)]
    return [derivation_with(body, {**fixed, **given}) for given in [first, *others]]


def known_at_first(body, columns):
    """The heads of the columns' classes and of the fixed classes."""
    given = [body.head(column) for column in columns]
    return in_class_order(body, [*given, *fixed_numbers(body)])


def in_class_order(body, heads):
    """The heads in class order, each once."""
    wanted = {head: True for head in heads}
    return tuple([members[0] for members in body.classes if members[0] in wanted])


def taken_steps(body, heads, names):
    """The steps by the keys of these tables, when these heads are known at first."""
    known = {head: True for head in heads}
    left = [name for name in body.names if name in names]
    taken = []
    ready = first_keyed(body, left, known)
    while ready is not None:
        fresh = [head for head in body.heads_of(ready) if head not in known]
        taken.append((ready, in_class_order(body, fresh)))
        known = {**known, **{head: True for head in fresh}}
        left = [name for name in left if name != ready]
        ready = first_keyed(body, left, known)
    return taken


def first_keyed(body, names, known):
    """The first of the tables whose key classes are all known, or None."""
    for name in names:
        if all([head in known for head in body.key_heads(name)]):
            return name
    return None


def store_of(body, found):
    """A store with the tables of the body and the rows of the derivations."""
    return store_without(body, [(derivation, ()) for derivation in found])


def store_without(body, pairs):
    """A store with the rows of the derivations, each without those of the tables named beside it."""
    rows = {}
    for place, name in enumerate(body.names):
        rows[name] = sorted(set([derivation[place] for derivation, absent in pairs if name not in absent]))
    return Store(body.tables, rows)


class Split:
    """A store with two derivations."""

    def __init__(self, store, first, second):
        self.store = store
        self.first = first
        self.second = second
