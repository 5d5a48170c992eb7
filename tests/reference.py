"""Slow and plain answers with which the tests compare, and tables to try."""

import random

from shownwrites.tables import Table


def columns_of(tables):
    """The columns of the tables, in column order."""
    return [f"{table.name}.{column}" for table in tables for column in table.columns]


def classes_of(tables, links):
    """The classes of the columns: those that a path of links connects."""
    columns = columns_of(tables)
    classes = []
    for column in columns:
        reached = {column}
        for _ in columns:
            for first, second in links:
                if first in reached or second in reached:
                    reached |= {first, second}
        members = tuple(c for c in columns if c in reached)
        if members not in classes:
            classes.append(members)
    return tuple(classes)


def some_table(dice, name):
    """A table of one to three columns and some key."""
    columns = dice.sample(["a", "b", "c", "d"], dice.randint(1, 3))
    return Table(name, columns, dice.sample(columns, dice.randint(1, len(columns))))


def dice_of(number):
    """A source of choices that are the same in each run."""
    return random.Random(number)
