"""Verdicts by the words of points 39 to 43, and plain searches for what a case shows."""

import itertools

from shownwrites.edits import Edit
from shownwrites.stores import Store
from shownwrites.views import View
from shownwrites.writes import Change
from tests.reference import (cell_edits, closure_of, columns_of, least_insertions, meaning_of, refusal_of,
                             shown_rows, spot_of, store_after, wanted_of)


def all_heads(body):
    """The heads of all classes."""
    return {members[0] for members in body.classes}


def open_of(body, heads):
    """The heads among these whose classes are open."""
    return {head for head in heads if body.fixed(head) is None}


def answers_39(body, heads, names):
    """None, some and several of drops and clears, with the shown or by columns."""
    shown = open_of(body, heads)
    return (not any(shown <= set(closure_of(body, body.heads_of(name))) for name in names),
            len(set(names)) > 0, len(set(names)) > 1)


def answers_40(sums, name):
    """None, some and several of totals."""
    body = sums.body
    column = sums.total_heads[sums.total_names.index(name)]
    table = column.partition(".")[0]
    region = body.region(column)
    return (set(closure_of(body, body.heads_of(table))) != all_heads(body)
            or (region.low, region.high, region.without) != (None, None, ()),
            True, not set(body.key_heads(table)) <= set(closure_of(body, sums.by_heads)))


def answers_41(view, names):
    """None, some and several of adds."""
    body = view.body
    others = [name for name in body.names if name not in names]
    classes = {head for name in names for head in body.heads_of(name)}
    several = len(names) > 0 and not classes <= set(closure_of(body, view.heads, others))
    return (len(others) > 0 or adds_41_first(view) or adds_41_second(view), len(names) > 0, several)


def free_columns(table):
    """The columns of a table outside its key, as the body names them."""
    return [f"{table.name}.{column}" for column in table.columns if column not in table.key]


def adds_41_first(view):
    """The first one of the two conditions of point 41."""
    body = view.body
    for table in body.tables:
        others = [name for name in body.names if name != table.name]
        reached = closure_of(body, view.heads, others)
        for column in free_columns(table):
            region = body.region(column)
            if body.head(column) in reached or (region.low, region.high, region.without) != (None, None, ()):
                return True
    return False


def adds_41_second(view):
    """The second one of the two conditions of point 41."""
    body = view.body
    for table in body.tables:
        linked = [column for column in free_columns(table)
                  for members in body.classes if column in members and len(members) > 1]
        if not open_of(body, view.heads) <= set(body.key_heads(table.name)) and not linked:
            return True
    return False


def derivation_of(body, numbers):
    """The derivation with these numbers of the classes by their heads."""
    return tuple(tuple(numbers[body.head(f"{table.name}.{column}")] for column in table.columns)
                 for table in body.tables)


def store_with(body, rows):
    """A store with pairs of a table's place and a row, or None if two rows have the same key."""
    held = {}
    for place, row in rows:
        table = body.tables[place]
        if held.setdefault((table.name, table.key_of(row)), row) != row:
            return None
    return Store(body.tables, {name: [row for (other, _), row in held.items() if other == name]
                               for name in body.names})


def patterns_of(view, name, count):
    """Lists of so many derivations: all patterns of the hidden open classes.

    All of them have the same shown numbers, but the first one alone has its number under the name.
    """
    body = view.body
    changed = view.heads[view.names.index(name)]
    hidden = [head for head in body.open_heads if head not in view.heads]
    equal = {2: [(0, 0), (0, 1)], 3: [(0, 0, 0), (0, 0, 1), (0, 1, 0), (0, 1, 1), (0, 1, 2)]}[count]
    for pattern in itertools.product(equal, repeat=len(hidden)):
        chosen = dict(zip(hidden, pattern))
        chosen[changed] = (0, 1, 1)[:count]
        found = []
        for at in range(count):
            numbers = {}
            for head in all_heads(body):
                region = body.region(head)
                numbers[head] = (body.fixed(head) if body.fixed(head) is not None
                                 else region.members(3)[chosen.get(head, (0, 0, 0))[at]])
            found.append(derivation_of(body, numbers))
        yield found


def pattern_works(view, name, cells, found):
    """True if each cell can be set in the first derivation's row to the number of its own derivation."""
    body = view.body
    places = [spot_of(body, cell)[0] for cell in cells]
    rows = list(enumerate(found[0]))
    for place, other in zip(places, found[1:]):
        rows += [(at, row) for at, row in enumerate(other) if at != place]
    store = store_with(body, rows)
    edits = []
    for cell, other in zip(cells, found[1:]):
        place, at = spot_of(body, cell)
        old = found[0][place]
        new = (*old[:at], other[place][at], *old[at + 1:])
        if old == new:
            return False
        edits.append(Edit([(body.names[place], body.tables[place].key_of(old), old, new)]))
    if store is None or edits[0] == edits[-1] and len(edits) == 2:
        return False
    row = tuple(found[0][spot_of(body, head)[0]][spot_of(body, head)[1]] for head in view.heads)
    head = view.heads[view.names.index(name)]
    place, at = spot_of(body, head)
    write = Change(row, name, found[1][place][at])
    return (refusal_of(view, store, write) is None
            and all(meaning_of(view, store, write, edit) for edit in edits))


def answers_42(view, name, cells):
    """None, some and several of changes, by trying all patterns of point 43."""
    body = view.body
    head = view.heads[view.names.index(name)]
    if body.fixed(head) is not None:
        return (False, False, False)
    alone = (head,) in body.classes and head in cells
    table = head.partition(".")[0]
    none = not alone or set(closure_of(body, body.heads_of(table))) != all_heads(body)
    some = alone or any(pattern_works(view, name, [cell], found)
                        for found in patterns_of(view, name, 2) for cell in set(cells))
    pairs = list(itertools.combinations_with_replacement(sorted(set(cells)), 2))
    several = any(pattern_works(view, name, pair, found)
                  for found in patterns_of(view, name, 3) for pair in pairs)
    return (none, some, several)


def answers_of(verdict):
    """Whether the verdict has each of the three cases."""
    return (verdict.none is not None, verdict.some is not None, verdict.several is not None)


def least_deletions_of(shown, store, write, names):
    """The least meanings among the edits that delete rows of these tables.

    What is lost with some rows is lost with more rows, too. So only rows are tried whose deletion
    alone changes nothing but the row, or the group, that the write is about.
    """
    kept = wanted_of(shown, store, write)
    harmless = []
    for name in sorted(set(names)):
        for row in store[name]:
            change = (name, store.table_of(name).key_of(row), row, None)
            left = shown_rows(shown, store_after(store, Edit([change])))
            if all(other in left for other in kept):
                harmless.append(change)
    for size in range(1, len(harmless) + 1):
        edits = [Edit(some) for some in itertools.combinations(harmless, size)]
        found = [edit for edit in edits if meaning_of(shown, store, write, edit, kept)]
        if found:
            return sorted(found, key=lambda edit: edit.changes)
    return []


def least_of(shown, store, write, permitted):
    """The least meanings by a plain search, and whether there are more that are not listed.

    Of an Add that has infinitely many ones, some of those are listed, too.
    """
    if write.kind in ("drop", "clear"):
        return (least_deletions_of(shown, store, write, permitted), False)
    if write.kind == "add":
        _, told, others = least_insertions(shown, store, write.row, permitted)
        return (sorted([*told, *others], key=lambda edit: edit.changes), len(others) > 0)
    cells = permitted
    if write.kind == "total":
        cells = [shown.total_heads[shown.total_names.index(write.name)]]
    standing = {number for table in store.tables for row in store[table.name] for number in row}
    tried = {write.value, *standing}
    if write.kind == "total":
        for found in shown.rows(store):
            difference = write.value - found[2][shown.total_names.index(write.name)]
            tried |= {number + difference // times for number in standing for times in range(1, 9)}
    return (cell_edits(shown, store, write, cells, sorted(tried)), False)


def check_case(test, shown, case, count, permitted):
    """Hold a case to point 37: `count` is 0 for none, 1 for some, 2 for several."""
    body = shown.body
    test.assertEqual(case.store.tables, tuple(sorted(body.tables, key=lambda table: table.name)))
    test.assertIsNone(refusal_of(shown, case.store, case.write))
    found, more = least_of(shown, case.store, case.write, permitted)
    test.assertIs(type(case.meanings), list)
    test.assertEqual(len(case.meanings), count)
    test.assertEqual(sorted(case.meanings, key=lambda edit: edit.changes), case.meanings)
    for edit in case.meanings:
        test.assertTrue(meaning_of(shown, case.store, case.write, edit))
        test.assertTrue(edit in found or more and len(edit) == len(found[0]))
        for name, _, before, after in edit.changes:
            test.assertIn(name, [one.partition(".")[0] for one in permitted] or body.names)
            if case.write.kind == "change":
                columns = [f"{name}.{column}" for column, old, new in
                           zip(body.tables[body.names.index(name)].columns, before, after) if old != new]
                test.assertTrue(set(columns) <= set(permitted))
    if count == 0:
        test.assertEqual(found, [])
    if count == 2:
        test.assertNotEqual(case.meanings[0], case.meanings[1])


def check_verdict(test, shown, verdict, answers, permitted):
    """Hold a verdict to its answers, and each of its cases to point 37."""
    test.assertEqual(answers_of(verdict), answers)
    test.assertIs(verdict.always_one, answers == (False, True, False))
    for count, case in enumerate((verdict.none, verdict.some, verdict.several)):
        if case is not None:
            check_case(test, shown, case, count, permitted)


def cells_of(body):
    """The columns of the body outside the keys."""
    keys = [f"{table.name}.{column}" for table in body.tables for column in table.key]
    return [column for column in columns_of(body.tables) if column not in keys]


def hidden_of(view):
    """The open classes that the view does not show."""
    return [head for head in view.body.open_heads if head not in view.heads]


def is_view(shown):
    """True for a view, False for sums."""
    return isinstance(shown, View)
