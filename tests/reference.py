"""Slow and plain answers with which the tests compare, and bodies and stores to try."""

import itertools
import random

from shownwrites.bodies import Body
from shownwrites.edits import Edit
from shownwrites.errors import Empty, Narrow, SameTable
from shownwrites.stores import Store
from shownwrites.sums import Sums
from shownwrites.tables import Table
from shownwrites.views import View
from shownwrites.writes import Add, Change, Clear, Drop, Total


def columns_of(tables):
    """The columns of the tables, in column order."""
    return [f"{table.name}.{column}" for table in tables for column in table.columns]


def classes_of(tables, links):
    """The classes of the columns: those that a path of links connects."""
    columns = columns_of(tables)
    classes = []
    for column in columns:
        reached = {column}
        for _ in columns:
            for first, second in links:
                if first in reached or second in reached:
                    reached |= {first, second}
        members = tuple(c for c in columns if c in reached)
        if members not in classes:
            classes.append(members)
    return tuple(classes)


def spot_of(body, column):
    """The place of a column's table in the body, and the column's place in the table."""
    name, _, part = column.partition(".")
    place = [table.name for table in body.tables].index(name)
    return (place, body.tables[place].columns.index(part))


def value_at(body, derivation, column):
    """The number that a column has in a derivation."""
    place, at = spot_of(body, column)
    return derivation[place][at]


def derivations_of(body, store):
    """All combinations of rows whose linked columns agree and whose values are allowed."""
    spots = [([spot_of(body, column) for column in members], body.region(members[0]))
             for members in body.classes]
    found = []
    for rows in itertools.product(*[store[table.name] for table in body.tables]):
        good = True
        for members, region in spots:
            values = {rows[place][at] for place, at in members}
            good = good and len(values) == 1 and values.pop() in region
        if good:
            found.append(rows)
    return sorted(found, key=lambda rows: [t.key_of(row) for t, row in zip(body.tables, rows)])


def closure_of(body, columns, using=None):
    """The heads of the smallest set of classes with the properties of points 15 and 16."""
    known = {body.head(column) for column in columns}
    known |= {members[0] for members in body.classes if body.fixed(members[0]) is not None}
    names = [table.name for table in body.tables] if using is None else using
    for _ in body.tables:
        for name in names:
            if set(body.key_heads(name)) <= known:
                known |= set(body.heads_of(name))
    return tuple(members[0] for members in body.classes if members[0] in known)


def shown_by_columns(body, store, columns):
    """What columns show in the derivations of a store, in ascending order, each row once."""
    return sorted({tuple(value_at(body, found, column) for column in columns)
                   for found in derivations_of(body, store)})


def sums_of(body, store, by, totals):
    """The rows of sums by the by columns and the totalled columns."""
    rows = []
    for group in shown_by_columns(body, store, by):
        found = [rows for rows in derivations_of(body, store)
                 if tuple(value_at(body, rows, column) for column in by) == group]
        rows.append((group, len(found), tuple(sum(value_at(body, rows, column) for rows in found)
                                              for column in totals)))
    return rows


def totalled_of(body):
    """The columns of the body that may be totalled, if they are no by columns."""
    alone = [members[0] for members in body.classes
             if len(members) == 1 and body.fixed(members[0]) is None]
    keys = [f"{table.name}.{column}" for table in body.tables for column in table.key]
    return [column for column in alone if column not in keys]


def shown_rows(shown, store):
    """The rows of a view or of sums in the store."""
    if isinstance(shown, View):
        return shown_by_columns(shown.body, store, shown.heads)
    return sums_of(shown.body, store, shown.by_heads, shown.total_heads)


def refusal_of(shown, store, write):
    """The name and the arguments of the refusal of point 24, or None."""
    rows = shown_rows(shown, store)
    of_view = write.kind in ("drop", "add", "change")
    row = write.row if of_view else write.group
    if of_view != isinstance(shown, View):
        return ("WrongKind", write.kind)
    if len(row) != len(shown.heads if of_view else shown.by_heads):
        return ("WrongLength", row)
    if write.kind != "add" and row not in (rows if of_view else [other[0] for other in rows]):
        return ("NotShown", row)
    if write.kind in ("change", "total"):
        if write.name not in (shown.names if of_view else shown.total_names):
            return ("NoName", write.name)
    if of_view and write.kind != "drop":
        told = ([(write.name, write.value)] if write.kind == "change"
                else list(zip(shown.names, row)))
        for name, value in told:
            if value not in shown.body.region(shown.heads[shown.names.index(name)]):
                return ("OutOfRegion", name, value)
    if row in [old for old, new in replacements(shown, rows, write) if old == new]:
        return ("NoDifference", write.value)
    for old, new in replacements(shown, rows, write):
        if of_view and old != new and new in rows:
            return ("AlreadyShown", new)
    return None


def replacements(shown, rows, write):
    """Pairs of a row (or its group) and what it becomes; None for no row."""
    if write.kind == "add":
        return [(None, write.row)]
    if write.kind == "change":
        at = shown.names.index(write.name)
        return [(write.row, (*write.row[:at], write.value, *write.row[at + 1:]))]
    if write.kind == "total":
        at = shown.total_names.index(write.name)
        return [(group, group if totals[at] == write.value else
                 (group, count, (*totals[:at], write.value, *totals[at + 1:])))
                for group, count, totals in rows if group == write.group]
    return [(write.row if write.kind == "drop" else write.group, None)]


def wanted_of(shown, store, write):
    """The wanted rows of a write that is not refused."""
    rows = shown_rows(shown, store)
    for old, new in replacements(shown, rows, write):
        rows = [row for row in rows if row != old and row[0] != old] + [new]
    return sorted(row for row in rows if row is not None)


def store_after(store, edit):
    """The store after the edit, or None if it does not fit."""
    held = {table.name: {table.key_of(row): row for row in store[table.name]} for table in store.tables}
    for name, key, before, after in edit.changes:
        if name not in held or held[name].get(key) != before:
            return None
        table = store.table_of(name)
        if after is not None and (len(after) != len(table.columns) or table.key_of(after) != key):
            return None
        held[name][key] = after
    return Store(store.tables, {name: [row for row in held[name].values() if row is not None]
                                for name in held})


def meaning_of(shown, store, write, edit, rows=None):
    """True if the edit is a meaning of the write, by the words of point 26.

    The wanted rows may be given, so that they need not be found again.
    """
    names = [table.name for table in shown.body.tables]
    after = store_after(store, edit)
    if after is None or any(change[0] not in names for change in edit.changes):
        return False
    for name, _, before, new in edit.changes:
        if write.kind in ("drop", "clear") and new is not None:
            return False
        if write.kind == "add" and before is not None:
            return False
        if write.kind in ("change", "total"):
            if len(edit.changes) != 1 or before is None or new is None:
                return False
            columns = [f"{name}.{column}" for column, a, b in
                       zip(store.table_of(name).columns, before, new) if a != b]
            if len(columns) != 1:
                return False
            if write.kind == "total" and columns != [
                    shown.total_heads[shown.total_names.index(write.name)]]:
                return False
    return shown_rows(shown, after) == (wanted_of(shown, store, write) if rows is None else rows)


def least_deletions(shown, store, write, names):
    """The least meanings among all edits that delete rows of these tables."""
    changes = [(name, store.table_of(name).key_of(row), row, None)
               for name in sorted(set(names)) for row in store[name]]
    rows = wanted_of(shown, store, write)
    for size in range(len(changes) + 1):
        edits = [Edit(some) for some in itertools.combinations(changes, size)]
        found = [edit for edit in edits if meaning_of(shown, store, write, edit, rows)]
        if found:
            return sorted(found, key=lambda edit: edit.changes)
    return []


def numbers_standing(body, store, head):
    """The numbers in the columns of a class in all rows of the body's tables."""
    members = [members for members in body.classes if members[0] == head][0]
    return {row[body.tables[at].columns.index(column.partition(".")[2])]
            for column in members for at, table in enumerate(body.tables)
            if table.name == column.partition(".")[0] for row in store[table.name]}


def least_insertions(view, store, row, names):
    """The number of rows, the told and the other edits of the least meanings of an Add.

    All numbers that stand in the hidden classes are tried, and one more for each class.
    """
    body = view.body
    hidden = [head for head in body.open_heads if head not in view.heads]
    standing = {head: numbers_standing(body, store, head) for head in hidden}
    more = {head: body.region(head).members(1, apart=list(standing[head])) for head in hidden}
    known = {members[0]: body.fixed(members[0]) for members in body.classes}
    known.update(zip(view.heads, row))
    rows = wanted_of(view, store, Add(row))
    found = []
    for numbers in itertools.product(*[sorted(standing[head]) + more[head] for head in hidden]):
        values = {**known, **dict(zip(hidden, numbers))}
        changes = []
        for table in body.tables:
            new = tuple(values[body.head(f"{table.name}.{column}")] for column in table.columns)
            if new not in store[table.name]:
                changes.append((table.name, table.key_of(new), None, new))
        edit = Edit(changes)
        permitted = all(change[0] in names for change in changes)
        if permitted and meaning_of(view, store, Add(row), edit, rows):
            told = all(number in standing[head] for head, number in zip(hidden, numbers))
            found.append((edit, told))
    if not found:
        return (None, [], [])
    least = min(len(edit) for edit, _ in found)
    found = sorted([(edit.changes, told) for edit, told in found if len(edit) == least])
    return (least, [Edit(changes) for changes, told in found if told],
            [Edit(changes) for changes, told in found if not told])


def cell_edits(shown, store, write, cells, numbers):
    """The meanings among the edits that set one of the cells to one of the numbers in some row."""
    rows = wanted_of(shown, store, write)
    found = []
    for cell in sorted(set(cells)):
        name, _, column = cell.partition(".")
        table = store.table_of(name)
        at = table.columns.index(column)
        for row in store[name]:
            for number in numbers:
                after = (*row[:at], number, *row[at + 1:])
                if after != row:
                    edit = Edit([(name, table.key_of(row), row, after)])
                    if meaning_of(shown, store, write, edit, rows):
                        found.append(edit)
    return sorted(found, key=lambda edit: edit.changes)


def name_sets(body):
    """All sets of tables of the body, ordered by their sizes and then by the places of the tables."""
    names = [table.name for table in body.tables]
    return [some for size in range(len(names) + 1) for some in itertools.combinations(names, size)]


def is_exchangeable(body, columns, names):
    """True if point 35 calls the set of tables exchangeable."""
    outside = [table for table in body.tables if table.name not in names]
    reached = closure_of(body, columns_of(outside))
    for name in names:
        if set(body.key_heads(name)) <= set(reached):
            return False
    near = {names[0]}
    for _ in names:
        for members in body.classes:
            owners = {column.partition(".")[0] for column in members} & set(names)
            if members[0] not in reached and owners & near:
                near |= owners
    return near == set(names) and any(body.head(column) not in reached for column in columns)


def sets_inside(body, columns):
    """The sets of tables that are intersections of exchangeable sets."""
    family = [set(names) for names in name_sets(body) if names and is_exchangeable(body, columns, names)]
    everything = {table.name for table in body.tables}
    # A set is an intersection exactly if it is that of all sets of the family that contain it.
    return [names for names in name_sets(body)
            if everything.intersection(*[other for other in family if other >= set(names)]) == set(names)]


def tables_inside(body, store, columns, derivation):
    """The tables that are inside for the group of the derivation, found row by row."""
    found = derivations_of(body, store)
    group = [value_at(body, derivation, column) for column in columns]
    inside = [rows for rows in found if [value_at(body, rows, column) for column in columns] == group]
    outside = [rows for rows in found if rows not in inside]
    return tuple(table.name for at, table in enumerate(body.tables)
                 if not {rows[at] for rows in inside} & {rows[at] for rows in outside})


def some_table(dice, name):
    """A table of one to three columns and some key."""
    columns = dice.sample(["a", "b", "c", "d"], dice.randint(1, 3))
    return Table(name, columns, dice.sample(columns, dice.randint(1, len(columns))))


def some_body(dice, most=4):
    """A body with links and conditions."""
    names = dice.sample(["p", "q", "r", "s", "t", "u"], dice.randint(1, most))
    return body_over(dice, [some_table(dice, name) for name in names])


def some_links(dice, tables, most):
    """At most so many links, which a body of these tables can have."""
    columns = columns_of(tables)
    links = []
    for _ in range(most):
        link = (dice.choice(columns), dice.choice(columns))
        try:
            Body(tables, [*links, link])
            links.append(link)
        except SameTable:
            pass
    return links


def body_over(dice, tables):
    """A body of these tables, with links and conditions."""
    columns = columns_of(tables)
    links = some_links(dice, tables, dice.randint(0, 4))
    conditions = []
    for _ in range(dice.choice([0, 0, 1, 2, 3])):
        condition = (dice.choice(columns), dice.choice(["=", "!=", ">", ">=", "<", "<="]),
                     dice.randint(0, 2))
        try:
            Body(tables, links, [*conditions, condition])
            conditions.append(condition)
        except (Empty, Narrow):
            pass
    return Body(tables, links, conditions)


def some_rows(dice, table, most=5, least=-1):
    """Rows with different keys, in any order."""
    rows = {}
    for _ in range(dice.randint(0, most)):
        row = tuple(dice.randint(least, 2) for _ in table.columns)
        rows[table.key_of(row)] = row
    rows = list(rows.values())
    dice.shuffle(rows)
    return rows


def some_store(dice, tables, most=5, least=-1):
    """A store with rows in these tables."""
    return Store(tables, {table.name: some_rows(dice, table, most, least) for table in tables})


def plain_tables(names):
    """Tables with a key and two further columns."""
    return [Table(name, ["k", "x", "y"], ["k"]) for name in names]


def linked_views():
    """Views with hidden classes, in which several edits often do the same."""
    ab, abc = plain_tables("ab"), plain_tables("abc")
    z = [Table("a", ["k", "z"], ["k"]), Table("b", ["z", "x"], ["z"]), Table("d", ["x", "z"], ["x"])]
    wide = [Table("p", ["x", "y"], ["x", "y"]), Table("q", ["y", "v"], ["y"])]
    return [
        View(Body(ab, [("a.x", "b.k")]), [("k", "a.k"), ("v", "b.x")]),
        View(Body(ab, [("a.x", "b.k")], [("b.y", "!=", 1)]), [("v", "b.x"), ("k", "a.k"), ("y", "a.y")]),
        View(Body(ab, [("a.x", "b.x")]), [("k", "a.k"), ("l", "b.k")]),
        View(Body(ab, [("a.x", "b.x"), ("a.y", "b.y")], [("a.x", ">=", 0)]), [("k", "a.k"), ("l", "b.k")]),
        View(Body(ab), [("k", "a.k"), ("l", "b.k"), ("x", "b.x")]),
        View(Body(abc, [("a.x", "b.k"), ("b.x", "c.k")]), [("k", "a.k"), ("v", "c.x")]),
        View(Body(abc, [("a.x", "b.x"), ("b.y", "c.k")]), [("k", "a.k"), ("l", "b.k"), ("v", "c.x")]),
        View(Body(abc, [("a.x", "b.k"), ("b.k", "c.x")]), [("k", "a.k"), ("m", "c.k"), ("v", "b.x")]),
        View(Body(abc, [("a.x", "b.k"), ("a.y", "c.k"), ("b.x", "c.x")], [("b.y", "=", 1)]),
             [("k", "a.k"), ("v", "c.y")]),
        View(Body(z, [("a.z", "b.z"), ("b.z", "d.z"), ("b.x", "d.x")]), [("k", "a.k"), ("x", "b.x")]),
        View(Body(wide, [("p.y", "q.y")], [("q.v", ">", 0)]), [("x", "p.x"), ("y", "q.y")]),
        View(Body(wide, [("p.y", "q.v")]), [("x", "p.x"), ("w", "q.y")]),
        View(Body(ab[::-1], [("a.x", "b.k")]), [("k", "a.k"), ("v", "b.x")]),
        View(Body(ab[::-1], [("a.x", "b.x")], [("a.y", "<", 2)]), [("l", "b.k"), ("k", "a.k")]),
    ]


def linked_sums():
    """Sums with totals, in whose groups derivations often share rows."""
    ab, abc = plain_tables("ab"), plain_tables("abc")
    return [
        Sums(Body(ab, [("a.x", "b.k")]), [("v", "b.x")], [("y", "a.y"), ("z", "b.y")]),
        Sums(Body(ab, [("a.x", "b.k")], [("a.y", ">=", 0)]), [], [("y", "a.y"), ("z", "b.y")]),
        Sums(Body(ab, [("a.x", "b.x")]), [("x", "a.x")], [("y", "a.y"), ("z", "b.y")]),
        Sums(Body(ab, [("a.x", "b.x")], [("b.y", "<=", 1)]), [("k", "a.k")], [("y", "a.y"), ("z", "b.y")]),
        Sums(Body(ab, [], [("b.y", "!=", 2)]), [], [("z", "b.y"), ("x", "a.x")]),
        Sums(Body(ab), [("x", "a.x")], [("z", "b.y"), ("y", "a.y")]),
        Sums(Body(abc, [("a.x", "b.k"), ("b.x", "c.k")]), [("v", "c.x")], [("y", "a.y"), ("z", "c.y")]),
        Sums(Body(abc, [("a.x", "b.x"), ("b.x", "c.x")]), [], [("y", "a.y")]),
        Sums(Body(abc, [("a.x", "b.k"), ("a.y", "c.k")]), [("v", "b.x")], [("w", "c.x"), ("z", "b.y")]),
    ]


def some_shown(dice, body):
    """Pairs for a view of the body: columns of some classes, enough to be keyed."""
    columns = [dice.choice(members) for members in body.classes]
    dice.shuffle(columns)
    most = dice.randint(1, len(columns))
    while len(closure_of(body, columns[:most])) < len(columns):
        most += 1
    return [(f"n{at}", column) for at, column in enumerate(columns[:most])]


def some_sums(dice, body):
    """The by pairs and the total pairs of sums of the body."""
    columns = [dice.choice(members) for members in body.classes]
    dice.shuffle(columns)
    by = columns[:dice.choice([0, 1, 1, 2, len(columns)])]
    totals = [column for column in totalled_of(body) if column not in by]
    dice.shuffle(totals)
    totals = totals[:dice.randint(0, len(totals))]
    return ([(f"b{at}", column) for at, column in enumerate(by)],
            [(f"t{at}", column) for at, column in enumerate(totals)])


def some_shown_view(dice, most=3):
    """A view, or sums, mostly with a total."""
    body = some_body(dice, most)
    if dice.random() < 0.5:
        return View(body, some_shown(dice, body))
    by, totals = some_sums(dice, body)
    for _ in range(5):
        if not totals:
            body = some_body(dice, most)
            by, totals = some_sums(dice, body)
    return Sums(body, by, totals)


def sparse_view(dice):
    """A view of two to four tables with many links that shows little more than it needs."""
    names = dice.sample("abcd", dice.choice([2, 3, 3, 4]))
    tables = [Table(name, ["k", *dice.choice(["x", "xy"])], ["k"]) for name in names]
    body = Body(tables, some_links(dice, tables, dice.randint(1, 5)))
    shown = dice.sample(body.open_heads, len(body.open_heads))
    for head in list(shown):
        rest = [other for other in shown if other != head]
        if rest and len(closure_of(body, rest)) == len(body.classes) and dice.random() < 0.9:
            shown = rest
    return View(body, [(f"n{at}", head) for at, head in enumerate(shown)])


def some_row(dice, rows, width):
    """One of the rows, or some row, seldom one of another length."""
    if rows and dice.random() < 0.6:
        return dice.choice(rows)
    if dice.random() < 0.1:
        width += dice.choice([-1, 1])
    return tuple(dice.randint(-1, 2) for _ in range(width))


def some_write(dice, shown, store):
    """A write, mostly one of a kind and a form that fit."""
    rows = shown_rows(shown, store)
    if isinstance(shown, View):
        row = some_row(dice, rows, len(shown.heads))
        name = dice.choice([*shown.names, *shown.names, "none"])
        return dice.choice([Drop(row), Add(row), Change(row, name, dice.randint(-1, 2)),
                            Change(row, name, dice.randint(-1, 2))])
    group = some_row(dice, [row[0] for row in rows], len(shown.by_heads))
    name = dice.choice([*shown.total_names, *shown.total_names, "none"])
    return dice.choice([Clear(group), Total(group, name, dice.randint(-2, 4))])


def some_change(dice, store):
    """A change of a row of the store, mostly one that fits it."""
    table = dice.choice(store.tables)
    rows = store[table.name]
    before = dice.choice(rows) if rows and dice.random() < 0.8 else None
    after = tuple(dice.randint(-1, 2) for _ in table.columns)
    if before is not None:
        others = [at for at, column in enumerate(table.columns) if column not in table.key]
        after = list(before)
        for at in dice.sample(others, min(len(others), dice.choice([1, 1, 1, 2]))):
            after[at] += dice.choice([-1, 1, 2])
        after = None if dice.random() < 0.5 or tuple(after) == before else tuple(after)
    key = table.key_of(before or after)
    if dice.random() < 0.05:
        key = (*key[1:], 2)
    if before is not None and dice.random() < 0.05:
        before = (*before[1:], 3)
    return (table.name, key, before, after)


def some_edit(dice, store):
    """An edit of one to three changes."""
    changes = {}
    for _ in range(dice.choice([1, 1, 1, 2, 3])):
        change = some_change(dice, store)
        if change[2] != change[3]:
            changes[change[:2]] = change
    return Edit(list(changes.values()))


def write_by(shown, store, edit):
    """A write that asks for what the edit does to the shown rows, or None."""
    after = store_after(store, edit)
    old = shown_rows(shown, store)
    new = old if after is None else shown_rows(shown, after)
    gone = [row for row in old if row not in new]
    come = [row for row in new if row not in old]
    of_view = isinstance(shown, View)
    if len(gone) == 1 and not come:
        return Drop(gone[0]) if of_view else Clear(gone[0][0])
    if len(come) == 1 and not gone:
        return Add(come[0]) if of_view else None
    if len(gone) != 1 or len(come) != 1:
        return None
    if not of_view and gone[0][:2] != come[0][:2]:
        return None
    pairs = list(zip(gone[0], come[0]) if of_view else zip(gone[0][2], come[0][2]))
    at = [at for at, (one, two) in enumerate(pairs) if one != two]
    if len(at) != 1:
        return None
    name = (shown.names if of_view else shown.total_names)[at[0]]
    if of_view:
        return Change(gone[0], name, pairs[at[0]][1])
    return Total(gone[0][0], name, pairs[at[0]][1])


def contents_of(value):
    """The value with all objects of the package replaced by what they hold."""
    if isinstance(value, (list, tuple)):
        return tuple(contents_of(one) for one in value)
    if isinstance(value, dict):
        return {key: contents_of(one) for key, one in value.items()}
    if type(value).__module__.startswith("shownwrites"):
        return (type(value).__name__, contents_of(vars(value)))
    return value


def dice_of(number):
    """A source of choices that are the same in each run."""
    return random.Random(number)
