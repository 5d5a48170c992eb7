"""Views and rules that are alike in all stores, and what parts those that are not."""

from shownwrites.bodies import fixed_numbers, table_of
from shownwrites.changeverdicts import change_verdict
from shownwrites.closures import store_without
from shownwrites.errors import OtherNames, OtherView, Unlike
from shownwrites.exchange import inside_case, inside_sets
from shownwrites.puts import put
from shownwrites.refusals import NoMeaning, NoRule
from shownwrites.regions import member_outside
from shownwrites.rows import derivation_with
from shownwrites.rules import default_numbers
from shownwrites.stores import Store
from shownwrites.verdicts import shared_totals, total_verdict
from shownwrites.views import View
from shownwrites.writes import Add, Clear, Drop


def shown_names(shown):
    """Whether this is a view, and the names in their order."""
    if isinstance(shown, View):
        return (True, shown.names, ())
    return (False, shown.by_names, shown.total_names)


def views_alike(first, second):
    """None if the two show the same rows in every store, otherwise a store in which they do not."""
    if shown_names(first) != shown_names(second):
        raise OtherNames()
    tables = {table.name: table for table in first.body.tables}
    for table in sorted(second.body.tables, key=lambda each: each.name):
        if tables.get(table.name, table) != table:
            raise Unlike(table.name)
        tables[table.name] = table
    for one, other in ((first.body, second.body), (second.body, first.body)):
        for derivation in telling_derivations(one, other):
            rows = {name: [row] for name, row in zip(one.names, derivation)}
            store = Store(list(tables.values()), rows)
            if first.rows(store) != second.rows(store):
                return store
    return None


def telling_derivations(body, other):
    """Derivations of the body: if the bodies or their shown classes differ, one of these tells it.

    In the first one no two classes have the same number, unless both are fixed to it. Each of the others
    has a number that a column cannot have in the other body.
    """
    numbers = fixed_numbers(body)
    used = list(numbers.values())
    for head in body.open_heads:
        numbers[head] = body.region(head).members(1, apart=used)[0]
        used.append(numbers[head])
    found = [numbers]
    for members in body.classes:
        for column in members:
            if table_of(column) in other.names:
                number = member_outside(body.region(column), other.region(column))
                if number is not None:
                    found.append({**numbers, members[0]: number})
    return [derivation_with(body, some) for some in found]


def rules_alike(first, second):
    """None if the two choose the same edits in every store, otherwise what parts them."""
    if not are_equal_views(first.view, second.view):
        raise OtherView()
    asked = [*deletion_questions(first, second), *adding_questions(first, second),
             *changing_questions(first, second), *total_questions(first, second)]
    for store, write in asked:
        one = chosen_edit(first, store, write)
        other = chosen_edit(second, store, write)
        if one != other:
            return Parted(store, write, one, other)
    return None


def are_equal_views(first, second):
    """True if both show the same classes of equal bodies under the same names."""
    if shown_names(first) != shown_names(second) or first.body != second.body:
        return False
    if isinstance(first, View):
        return first.heads == second.heads
    return first.by_heads == second.by_heads and first.total_heads == second.total_heads


def chosen_edit(rules, store, write):
    """The edit that the rules choose, or None if they choose none."""
    try:
        return put(rules, store, write)
    except (NoRule, NoMeaning):
        return None


def deletion_questions(first, second):
    """Stores and writes, among which one parts the rules if their tables to delete from do."""
    view = first.view
    of_view = isinstance(view, View)
    heads = view.heads if of_view else view.by_heads
    asked = []
    for names in inside_sets(view.body, heads):
        if leading(first.drop_tables, names) != leading(second.drop_tables, names):
            case = inside_case(view.body, heads, names)
            row = case.derivation
            asked.append((case.store, Drop(view.shown_of(row)) if of_view else Clear(view.group_of(row))))
    return asked


def leading(tables, names):
    """The first of the tables that is among the names, or None."""
    for name in tables:
        if name in names:
            return name
    return None


def adding_questions(first, second):
    """Stores and writes, among which one parts the rules if what they insert does.

    The tables of the one rules are empty, and the other ones have the rows that its defaults lead to.
    """
    view = first.view
    asked = []
    for rules in (first, second):
        if len(rules.add_tables) > 0:
            defaults = default_numbers(rules)
            numbers = fixed_numbers(view.body)
            for head in view.body.open_heads:
                asked_for = head in rules.asked
                numbers[head] = defaults[head] if asked_for else view.body.region(head).members(1)[0]
            derivation = derivation_with(view.body, numbers)
            store = store_without(view.body, [(derivation, rules.add_tables)])
            asked.append((store, Add(view.shown_of(derivation))))
    return asked


def changing_questions(first, second):
    """Stores and writes, among which one parts the rules if their picks of changes do."""
    asked = []
    for name, cell, pick in [*first.change_picks, *second.change_picks]:
        if (name, cell, pick) not in first.change_picks or (name, cell, pick) not in second.change_picks:
            verdict = change_verdict(first.view, name, [cell])
            asked.extend([(case.store, case.write) for case in (verdict.some, verdict.several) if case is not None])
    return asked


def total_questions(first, second):
    """Stores and writes, among which one parts the rules if their words for totals do."""
    asked = []
    for name, word in [*first.total_words, *second.total_words]:
        if (name, word) not in first.total_words or (name, word) not in second.total_words:
            cases = [total_verdict(first.view, name).some, *shared_totals(first.view, name)]
            asked.extend([(case.store, case.write) for case in cases])
    return asked


class Parted:
    """A store and a write for which two rules do not choose the same edit."""

    def __init__(self, store, write, first, second):
        self.store = store
        self.write = write
        self.first = first
        self.second = second
