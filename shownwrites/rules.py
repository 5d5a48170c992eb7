"""Rules: which meaning is chosen for a write to a view or to sums."""

from shownwrites.bodies import is_key_column
from shownwrites.closures import closure
from shownwrites.refusals import InvalidRule
from shownwrites.views import View

PICKS = ("least", "greatest")
WORDS = ("least key", "greatest key", "least value", "greatest value")


def are_distinct(names):
    """True if no name stands twice."""
    return len(set(names)) == len(names)


def are_tables(body, names):
    """True if these are names of tables of the body, each once."""
    return are_distinct(names) and all([name in body.names for name in names])


def are_added(view, names):
    """True if rules for the view can allow insertions into these tables."""
    if not isinstance(view, View):
        return len(names) == 0
    return are_tables(view.body, names)


def are_columns_of(body, columns):
    """True if the body has all these columns."""
    known = [column for members in body.classes for column in members]
    return all([column in known for column in columns])


def asked_heads(view, names):
    """The classes that need a default if rows may be inserted into these tables, as they are asked."""
    if len(names) == 0:
        return ()
    others = [name for name in view.body.names if name not in names]
    asked = []
    missing = missing_heads(view, names, others, asked)
    while len(missing) > 0:
        asked.append(missing[0])
        missing = missing_heads(view, names, others, asked)
    return tuple(asked)


def missing_heads(view, names, others, asked):
    """The classes of these tables that follow from the shown and asked ones by no key of the others."""
    body = view.body
    known = closure(body, [*view.heads, *asked], using=others)
    return [head for head in listed_heads(body, names) if head not in known]


def listed_heads(body, names):
    """The heads of all classes of these tables, in class order."""
    listed = [head for name in names for head in body.heads_of(name)]
    return [members[0] for members in body.classes if members[0] in listed]


def are_defaults(view, defaults, asked):
    """True if rules for the view can have these defaults, when these classes are asked."""
    if not isinstance(view, View):
        return len(defaults) == 0
    body = view.body
    if not are_columns_of(body, [column for column, _ in defaults]):
        return False
    heads = [body.head(column) for column, _ in defaults]
    hidden = [head for head in body.open_heads if head not in view.heads]
    inside = all([number in body.region(column) for column, number in defaults])
    needed = all([head in heads for head in asked])
    return inside and needed and are_distinct(heads) and all([head in hidden for head in heads])


def are_changes(view, changes):
    """True if rules for the view can pick changes in this way."""
    if not isinstance(view, View):
        return len(changes) == 0
    names = [name for name, _, _ in changes]
    open_names = [name for name, head in zip(view.names, view.heads) if view.body.fixed(head) is None]
    known = are_columns_of(view.body, [cell for _, cell, _ in changes])
    if not known or any([is_key_column(view.body, cell) for _, cell, _ in changes]):
        return False
    told = all([pick in PICKS for _, _, pick in changes])
    return told and are_distinct(names) and all([name in open_names for name in names])


def are_totals(view, words):
    """True if rules for the sums can pick totals by these words."""
    if isinstance(view, View):
        return len(words) == 0
    names = [name for name, _ in words]
    told = all([word in WORDS for _, word in words])
    return told and are_distinct(names) and all([name in view.total_names for name in names])


def default_numbers(rules):
    """The defaults by the heads of their classes."""
    return {rules.view.body.head(column): number for column, number in rules.defaults}


def tuples(entries):
    """The pairs or triples as a tuple of tuples."""
    return tuple([tuple(entry) for entry in entries])


class Rules:
    """For each kind of write to a view, or to sums, which of its meanings is chosen."""

    def __init__(self, view, *, drop=(), add=(), defaults=(), change=(), total=()):
        self.view = view
        self.drop_tables = tuple(drop)
        self.add_tables = tuple(add)
        self.defaults = tuples(defaults)
        self.change_picks = tuples(change)
        self.total_words = tuples(total)
        if not are_tables(view.body, self.drop_tables):
            raise InvalidRule("drop")
        if not are_added(view, self.add_tables):
            raise InvalidRule("add")
        self.asked = asked_heads(view, self.add_tables)
        if not are_defaults(view, self.defaults, self.asked):
            raise InvalidRule("defaults")
        if not are_changes(view, self.change_picks):
            raise InvalidRule("change")
        if not are_totals(view, self.total_words):
            raise InvalidRule("total")
