"""Exchange: which tables are inside, so that their rows belong to one group alone."""

from shownwrites.bodies import known_names
from shownwrites.closures import closure, derivations_apart, store_of
from shownwrites.errors import NotPossible
from shownwrites.parts import linked_names, subsets


def exchangeable(body, columns):
    """The exchangeable sets of tables for the columns, small ones first."""
    given = [body.head(column) for column in columns]
    return [names for size in range(1, len(body.names) + 1) for names in subsets(body.names, size)
            if is_exchangeable(body, given, names)]


def is_exchangeable(body, given, names):
    """True if the set of tables is exchangeable when the classes of these heads are given."""
    reached = closure_outside(body, names)
    for name in names:
        if all([head in reached for head in body.key_heads(name)]):
            return False
    heads = {name: [head for head in body.heads_of(name) if head not in reached] for name in names}
    connected = len(linked_names(names, heads)) == 1
    return connected and not all([head in reached for head in given])


def closure_outside(body, names):
    """The closure of all columns of the other tables."""
    return closure(body, [head for name in body.names if name not in names
                          for head in body.heads_of(name)])


def inside_sets(body, columns):
    """The sets of tables that can be inside for a group at once, small ones first."""
    found = {body.names: True}
    for names in exchangeable(body, columns):
        for other in list(found):
            found[tuple([name for name in other if name in names])] = True
    sized = sorted([(len(names), [body.names.index(name) for name in names]) for names in found])
    return [tuple([body.names[place] for place in places]) for _, places in sized]


def inside_case(body, columns, names):
    """A store with a derivation that is alone in its group, so that these tables are inside."""
    possible = inside_sets(body, columns)
    inside = known_names(body, names)
    if inside not in possible:
        raise NotPossible(inside)
    family = [other for other in exchangeable(body, columns)
              if all([name in other for name in inside])]
    found = derivations_apart(body, [closure_outside(body, other) for other in family])
    return Inside(store_of(body, found), found[0])


class Inside:
    """A store, and a derivation in it that is alone in its group."""

    def __init__(self, store, derivation):
        self.store = store
        self.derivation = derivation
