"""Puts: the one meaning of a write that rules choose."""

from shownwrites.bodies import fixed_numbers
from shownwrites.changing import changes, totals
from shownwrites.dropping import deletion
from shownwrites.edits import Edit
from shownwrites.refusals import NoMeaning, NoRule
from shownwrites.rows import derivation_with, stands_once
from shownwrites.rules import default_numbers, listed_heads
from shownwrites.writes import is_meaning, wanted


def put(rules, store, write):
    """The edit that the rules choose for the write in the store."""
    wanted(rules.view, store, write)
    if write.kind == "drop":
        edit = dropping_edit(rules, store, write)
    elif write.kind == "clear":
        edit = clearing_edit(rules, store, write)
    elif write.kind == "add":
        edit = adding_edit(rules, store, write)
    elif write.kind == "change":
        edit = changing_edit(rules, store, write)
    else:
        edit = totalling_edit(rules, store, write)
    if edit is None:
        raise NoMeaning(write)
    return edit


def dropping_edit(rules, store, write):
    """The deletion of the origin's row of the first table where this row stands in nothing else, or None."""
    if len(rules.drop_tables) == 0:
        raise NoRule(write.kind)
    body = rules.view.body
    origin = rules.view.origin(store, write.row)
    for name in rules.drop_tables:
        place = body.names.index(name)
        if stands_once(body, store, name, origin[place]):
            return Edit([deletion(body.tables[place], origin[place])])
    return None


def clearing_edit(rules, store, write):
    """The deletions of the group's rows of the first table where no other group has them, or None."""
    if len(rules.drop_tables) == 0:
        raise NoRule(write.kind)
    body = rules.view.body
    inside, outside = rules.view.divided(store, write.group)
    for name in rules.drop_tables:
        place = body.names.index(name)
        rows = sorted(set([found[place] for found in inside]))
        others = {found[place]: True for found in outside}
        if not any([row in others for row in rows]):
            return Edit([deletion(body.tables[place], row) for row in rows])
    return None


def adding_edit(rules, store, write):
    """The insertion of the rows that the new derivation lacks, if it is a meaning, or None."""
    if len(rules.add_tables) == 0:
        raise NoRule(write.kind)
    body = rules.view.body
    numbers = found_numbers(rules, store, write.row)
    if len(numbers) < len(body.classes):
        return None
    changes_made = []
    for table, row in zip(body.tables, derivation_with(body, numbers)):
        key = table.key_of(row)
        if store.row_at(table.name, key) != row:
            if table.name not in rules.add_tables:
                return None
            changes_made.append((table.name, key, None, row))
    edit = Edit(changes_made)
    # A key that is taken by another row makes this False, too.
    return edit if is_meaning(rules.view, store, write, edit) else None


def found_numbers(rules, store, row):
    """The numbers of the classes, as far as rows of the store and the defaults tell them."""
    body = rules.view.body
    defaults = default_numbers(rules)
    listed = listed_heads(body, rules.add_tables)
    known = {**fixed_numbers(body), **dict(zip(rules.view.heads, row))}
    fresh = next_numbers(body, store, known, listed, defaults)
    while len(fresh) > 0:
        known.update(fresh)
        fresh = next_numbers(body, store, known, listed, defaults)
    return known


def next_numbers(body, store, known, listed, defaults):
    """The numbers that are found next: those of a row, otherwise a default; none at the end."""
    for table in body.tables:
        heads = body.heads_of(table.name)
        row = row_with_key(body, store, table, known)
        if row is not None and not all([head in known for head in heads]):
            return {head: number for head, number in zip(heads, row) if head not in known}
    missing = [head for head in listed if head not in known]
    if len(missing) == 0 or missing[0] not in defaults:
        return {}
    return {missing[0]: defaults[missing[0]]}


def row_with_key(body, store, table, known):
    """The row of the table that has the known numbers as its key, or None."""
    heads = body.key_heads(table.name)
    if not all([head in known for head in heads]):
        return None
    return store.row_at(table.name, tuple([known[head] for head in heads]))


def changing_edit(rules, store, write):
    """The meaning with the least or the greatest number in the picked cell, or None."""
    for name, cell, pick in rules.change_picks:
        if name == write.name:
            # These edit the same cell of the same row, so they are in the order of the new numbers.
            found = changes(rules.view, store, write.row, name, write.value, [cell])
            return chosen(found, pick)
    raise NoRule(write.kind)


def totalling_edit(rules, store, write):
    """The meaning whose row has the least or the greatest key or number, or None."""
    for name, word in rules.total_words:
        if name == write.name:
            pick, _, part = word.partition(" ")
            found = totals(rules.view, store, write.group, name, write.value)
            if part == "value":
                column = rules.view.total_heads[rules.view.total_at(name)]
                found = with_end_number(found, rules.view.body.spot_of(column)[1], pick)
                pick = "least"
            return chosen(found, pick)
    raise NoRule(write.kind)


def with_end_number(edits, at, pick):
    """The edits of the rows that have the least or the greatest number at this place before."""
    numbers = sorted([edit.changes[0][2][at] for edit in edits])
    ends = numbers[:1] if pick == "least" else numbers[-1:]
    return [edit for edit in edits if edit.changes[0][2][at] in ends]


def chosen(edits, pick):
    """The first or the last one of the edits, or None if there is none."""
    if len(edits) == 0:
        return None
    return edits[0] if pick == "least" else edits[-1]
