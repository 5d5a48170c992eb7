"""Parts of bodies: some of the tables, with the classes and regions that they have in the body."""

from shownwrites.bodies import Body, table_of
from shownwrites.regions import conditions_of
from shownwrites.rows import linked_parts


def picked(count, size, start):
    """A generator of the ascending tuples of that size of numbers from start to below count."""
    if size == 0:
        yield ()
        return
    left = size - 1
    for at in range(start, count - left):
        after = at + 1
        for further in picked(count, left, after):
            yield (at, *further)


def subsets(names, size):
    """The tuples of that many of the names, in the order of the names, by their places."""
    many = len(names)
    return [tuple([names[at] for at in places]) for places in picked(many, size, 0)]


def part_body(body, names):
    """The body of some of the tables: what these alone have to fulfil."""
    links = []
    conditions = []
    for members in body.classes:
        inside = [column for column in members if table_of(column) in names]
        links.extend([(inside[0], column) for column in inside[1:]])
        if len(inside) > 0:
            bounds = conditions_of(body.region(inside[0]))
            conditions.extend([(inside[0], sign, number) for sign, number in bounds])
    return Body([table for table in body.tables if table.name in names], links, conditions)


def linked_names(names, heads):
    """The names in groups; a group's tables are linked, perhaps through others, by these heads.

    The heads are given for each name. No two groups have a head in common.
    """
    groups = linked_parts([heads[name] for name in names])
    return [tuple([names[at] for at in places]) for places in groups]
