"""Slow and plain answers with which the tests compare, and bodies and stores to try."""

import itertools
import random

from shownwrites.bodies import Body
from shownwrites.errors import Empty, Narrow, SameTable
from shownwrites.stores import Store
from shownwrites.tables import Table


def columns_of(tables):
    """The columns of the tables, in column order."""
    return [f"{table.name}.{column}" for table in tables for column in table.columns]


def classes_of(tables, links):
    """The classes of the columns: those that a path of links connects."""
    columns = columns_of(tables)
    classes = []
    for column in columns:
        reached = {column}
        for _ in columns:
            for first, second in links:
                if first in reached or second in reached:
                    reached |= {first, second}
        members = tuple(c for c in columns if c in reached)
        if members not in classes:
            classes.append(members)
    return tuple(classes)


def value_at(body, derivation, column):
    """The number that a column has in a derivation."""
    name, _, part = column.partition(".")
    place = [table.name for table in body.tables].index(name)
    return derivation[place][body.tables[place].columns.index(part)]


def derivations_of(body, store):
    """All combinations of rows whose linked columns agree and whose values are allowed."""
    found = []
    for rows in itertools.product(*[store[table.name] for table in body.tables]):
        good = True
        for members in body.classes:
            values = {value_at(body, rows, column) for column in members}
            good = good and len(values) == 1 and values.pop() in body.region(members[0])
        if good:
            found.append(rows)
    return sorted(found, key=lambda rows: [t.key_of(row) for t, row in zip(body.tables, rows)])


def closure_of(body, columns, using=None):
    """The heads of the smallest set of classes with the properties of points 15 and 16."""
    known = {body.head(column) for column in columns}
    known |= {members[0] for members in body.classes if body.fixed(members[0]) is not None}
    names = [table.name for table in body.tables] if using is None else using
    for _ in body.tables:
        for name in names:
            if set(body.key_heads(name)) <= known:
                known |= set(body.heads_of(name))
    return tuple(members[0] for members in body.classes if members[0] in known)


def some_table(dice, name):
    """A table of one to three columns and some key."""
    columns = dice.sample(["a", "b", "c", "d"], dice.randint(1, 3))
    return Table(name, columns, dice.sample(columns, dice.randint(1, len(columns))))


def some_body(dice, most=4):
    """A body with links and conditions."""
    names = dice.sample(["p", "q", "r", "s", "t", "u"], dice.randint(1, most))
    tables = [some_table(dice, name) for name in names]
    columns = columns_of(tables)
    links = []
    for _ in range(dice.randint(0, 4)):
        link = (dice.choice(columns), dice.choice(columns))
        try:
            Body(tables, [*links, link])
            links.append(link)
        except SameTable:
            pass
    conditions = []
    for _ in range(dice.choice([0, 0, 1, 2, 3])):
        condition = (dice.choice(columns), dice.choice(["=", "!=", ">", ">=", "<", "<="]),
                     dice.randint(0, 2))
        try:
            Body(tables, links, [*conditions, condition])
            conditions.append(condition)
        except (Empty, Narrow):
            pass
    return Body(tables, links, conditions)


def some_rows(dice, table, most=5):
    """Rows with different keys, in any order."""
    rows = {}
    for _ in range(dice.randint(0, most)):
        row = tuple(dice.randint(-1, 2) for _ in table.columns)
        rows[table.key_of(row)] = row
    rows = list(rows.values())
    dice.shuffle(rows)
    return rows


def some_store(dice, tables, most=5):
    """A store with rows in these tables."""
    return Store(tables, {table.name: some_rows(dice, table, most) for table in tables})


def dice_of(number):
    """A source of choices that are the same in each run."""
    return random.Random(number)
