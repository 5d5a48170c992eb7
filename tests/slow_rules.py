"""Puts and what is alike by the words of points 49, 50, 52 and 53, and rules to try."""

from shownwrites.edits import Edit
from shownwrites.refusals import InvalidRule
from shownwrites.rules import Rules
from shownwrites.views import View
from tests.reference import (cell_edits, closure_of, derivations_of, meaning_of, refusal_of, sets_inside, spot_of,
                             totalled_of, value_at)
from tests.slow_verdicts import answers_40, answers_42, cells_of, derivation_of, hidden_of, is_view

WORDS = ["least key", "greatest key", "least value", "greatest value"]


def put_of(rules, store, write):
    """The edit by point 49, or the name of the error that put raises with its arguments."""
    refusal = refusal_of(rules.view, store, write)
    if refusal is not None:
        return refusal
    missing = {"drop": not rules.drop_tables, "clear": not rules.drop_tables, "add": not rules.add_tables}
    if missing.get(write.kind, False):
        return ("NoRule", write.kind)
    if write.kind in ("drop", "clear"):
        edit = deleted(rules, store, write)
    elif write.kind == "add":
        edit = added(rules, store, write)
    else:
        picks = [entry for entry in (*rules.change_picks, *rules.total_words) if entry[0] == write.name]
        if not picks:
            return ("NoRule", write.kind)
        edit = changed(rules.view, store, write, *picks[0][1:])
    return ("NoMeaning", write) if edit is None else edit


def deleted(rules, store, write):
    """The edit of a Drop or a Clear, or None."""
    view = rules.view
    of_view = is_view(view)
    heads = view.heads if of_view else view.by_heads
    wanted = write.row if of_view else write.group
    found = derivations_of(view.body, store)
    inside = [rows for rows in found if tuple(value_at(view.body, rows, head) for head in heads) == wanted]
    outside = [rows for rows in found if rows not in inside]
    for name in rules.drop_tables:
        at = view.body.names.index(name)
        rows = {rows[at] for rows in inside}
        if not rows & {rows[at] for rows in outside}:
            return Edit([(name, store.table_of(name).key_of(row), row, None) for row in rows])
    return None


def added(rules, store, write):
    """The edit of an Add by point 50, or None."""
    view, body = rules.view, rules.view.body
    known = {members[0]: body.fixed(members[0]) for members in body.classes if body.fixed(members[0]) is not None}
    known.update(zip(view.heads, write.row))
    defaults = {body.head(column): number for column, number in rules.defaults}
    while True:
        found = None
        for table in body.tables:
            heads = list(body.heads_of(table.name))
            keys = list(body.key_heads(table.name))
            if found is None and set(keys) <= set(known) and not set(heads) <= set(known):
                for row in store[table.name]:
                    if table.key_of(row) == tuple(known[head] for head in keys):
                        found = dict(zip(heads, row))
        if found is not None:
            known = {**found, **known}
            continue
        left = [members[0] for members in body.classes if members[0] not in known and any(
            members[0] in body.heads_of(name) for name in rules.add_tables)]
        if not left:
            break
        if left[0] not in defaults:
            return None
        known[left[0]] = defaults[left[0]]
    if len(known) < len(body.classes):
        return None
    changes = []
    for table, row in zip(body.tables, derivation_of(body, known)):
        if row not in store[table.name]:
            changes.append((table.name, table.key_of(row), None, row))
    edit = Edit(changes)
    listed = all(change[0] in rules.add_tables for change in changes)
    return edit if listed and meaning_of(view, store, write, edit) else None


def changed(view, store, write, *pick):
    """The edit of a Change or a Total, or None."""
    standing = {number for table in store.tables for row in store[table.name] for number in row}
    if write.kind == "change":
        cell, word = pick
        place, at = spot_of(view.body, cell)
        row = [rows for rows in derivations_of(view.body, store)
               if tuple(value_at(view.body, rows, head) for head in view.heads) == write.row][0][place]
        found = [edit for edit in cell_edits(view, store, write, [cell], sorted({write.value, *standing}))
                 if edit.changes[0][2] == row]
        found.sort(key=lambda edit: edit.changes[0][3][at])
        word = f"{word} new"
    else:
        word = pick[0]
        cell = view.total_heads[view.total_names.index(write.name)]
        at = spot_of(view.body, cell)[1]
        spread = 10 + 3 * max(abs(number) for number in [write.value, *standing])
        found = cell_edits(view, store, write, [cell], range(-spread, spread + 1))
        # Kept in the order of the keys where the values are equal.
        if word.endswith("value"):
            turn = 1 if word.startswith("least") else -1
            found.sort(key=lambda edit: (turn * edit.changes[0][2][at], edit.changes[0][1]))
            word = "least"
    if not found:
        return None
    return found[0] if word.startswith("least") else found[-1]


def same_class(first, second, one, other):
    """True if two columns stand for the same class, or for fixed classes with the same number."""
    fixed = (first.fixed(one), second.fixed(other))
    if fixed != (None, None):
        return fixed[0] == fixed[1]
    classes = [{*members} for body, column in ((first, one), (second, other))
               for members in body.classes if column in members]
    return classes[0] == classes[1]


def bodies_alike(first, second):
    """True if the first four conditions of point 52 hold."""
    if set(first.names) != set(second.names):
        return False
    for members in first.classes:
        for column in members:
            if first.fixed(column) != second.fixed(column):
                return False
            if first.fixed(column) is None:
                other = [some for some in second.classes if column in some][0]
                if set(other) != set(members) or first.region(column) != second.region(column):
                    return False
    return True


def shown_alike(first, second):
    """True if point 52 calls two views, or two sum views, alike, whose names are the same."""
    one = first.heads if is_view(first) else (*first.by_heads, *first.total_heads)
    two = second.heads if is_view(second) else (*second.by_heads, *second.total_heads)
    return bodies_alike(first.body, second.body) and all(
        same_class(first.body, second.body, a, b) for a, b in zip(one, two))


def rules_parted(first, second):
    """The kinds of writes of which point 53 says that they part two rules."""
    view = first.view
    parted = set()
    for names in sets_inside(view.body, view.heads if is_view(view) else view.by_heads):
        one = [name for name in first.drop_tables if name in names]
        two = [name for name in second.drop_tables if name in names]
        if one[:1] != two[:1]:
            parted.add("drop" if is_view(view) else "clear")
    heads = {view.body.head(column): number for column, number in first.defaults}
    others = {view.body.head(column): number for column, number in second.defaults}
    if first.add_tables or second.add_tables:
        if set(first.add_tables) != set(second.add_tables):
            parted.add("add")
        elif any(heads[head] != others[head] for head in first.asked):
            parted.add("add")
    if is_view(view):
        for name in view.names:
            if changes_parted(view, name, first, second):
                parted.add("change")
    else:
        for name in view.total_names:
            one, two = dict(first.total_words).get(name), dict(second.total_words).get(name)
            if one != two and (None in (one, two) or answers_40(view, name)[2]):
                parted.add("total")
    return parted


def changes_parted(view, name, first, second):
    """True if the entries for a shown name part two rules."""
    entries = []
    for rules in (first, second):
        told = [entry[1:] for entry in rules.change_picks if entry[0] == name]
        entries.append(told[0] if told and answers_42(view, name, [told[0][0]])[1] else None)
    if entries[0] == entries[1]:
        return False
    if None in entries or entries[0][0] != entries[1][0]:
        return True
    return answers_42(view, name, [entries[0][0]])[2]


def some_of(dice, names):
    """Some of the names in any order, often none or all of them."""
    names = list(names)
    return dice.sample(names, dice.choice([0, len(names), dice.randint(0, len(names))]))


def some_number(dice, region):
    """A small number of the region, if it has one."""
    near = [number for number in range(-1, 4) if number in region]
    return dice.choice(near) if near else region.members(1)[0]


def some_rules(dice, view):
    """Rules for the view or the sums."""
    body = view.body
    drop = some_of(dice, body.names)
    if not is_view(view):
        words = [(name, dice.choice(WORDS)) for name in some_of(dice, view.total_names)]
        return Rules(view, drop=drop, total=words)
    defaults = []
    for members in body.classes:
        if members[0] in hidden_of(view):
            defaults.append((dice.choice(members), some_number(dice, body.region(members[0]))))
    dice.shuffle(defaults)
    cells = cells_of(body)
    names = [name for name, head in zip(view.names, view.heads) if body.fixed(head) is None]
    change = [(name, dice.choice(cells), dice.choice(["least", "greatest"])) for name in some_of(dice, names) if cells]
    add = some_of(dice, body.names)
    if dice.random() < 0.5:
        defaults = some_of(dice, defaults)
    try:
        return Rules(view, drop=drop, add=add, defaults=defaults, change=change)
    except InvalidRule:
        return some_rules(dice, view)
