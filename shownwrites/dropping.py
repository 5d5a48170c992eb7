"""Dropping rows and clearing groups: the least sets of rows to delete."""

from shownwrites.bodies import known_names
from shownwrites.edits import Edit
from shownwrites.errors import NotShown
from shownwrites.rows import stands_once


def drops(view, store, row, tables):
    """The least meanings of dropping the row that delete rows of these tables."""
    names = known_names(view.body, tables)
    origin = view.origin(store, row)
    lone = [deletion(table, held) for table, held in zip(view.body.tables, origin)
            if table.name in names and stands_once(view.body, store, table.name, held)]
    return [Edit([change]) for change in sorted(lone)]


def clears(sums, store, group, tables):
    """The least meanings of clearing the group that delete rows of these tables."""
    names = known_names(sums.body, tables)
    inside, outside = sums.divided(store, group)
    if len(inside) == 0:
        raise NotShown(group)
    kept = {change: True for rows in outside for change in deletions(sums.body, names, rows)}
    choices = [[change for change in deletions(sums.body, names, rows) if change not in kept]
               for rows in inside]
    return [Edit(changes) for changes in least_choices(choices)]


def deletion(table, row):
    """The change that deletes the row."""
    return (table.name, table.key_of(row), row, None)


def deletions(body, names, derivation):
    """The changes that delete a row of the derivation, of one of the tables."""
    return [deletion(table, row) for table, row in zip(body.tables, derivation)
            if table.name in names]


def least_choices(choices):
    """The least sets of changes with at least one of each choice, in ascending order."""
    changes = sorted(set([change for choice in choices for change in choice]))
    places = {change: at for at, change in enumerate(changes)}
    covers = least_covers([sorted([places[change] for change in choice]) for choice in choices])
    return [[changes[at] for at in cover] for cover in covers]


def least_covers(choices):
    """The least sets of numbers with at least one of each choice, in ascending order."""
    forced = sorted(set([choice[0] for choice in choices if len(choice) == 1]))
    left = narrowest([choice for choice in choices if not shares(choice, forced)])
    if any([len(choice) == 0 for choice in left]):
        return []
    size = 0
    covers = covers_within(left, size)
    while len(covers) == 0:
        size = size + 1
        covers = covers_within(left, size)
    return sorted([sorted([*forced, *cover]) for cover in covers])


def shares(first, second):
    """True if the two lists have a member in common."""
    return any([number in second for number in first])


def narrowest(choices):
    """The choices that contain no other one, each once."""
    distinct = [list(choice) for choice in sorted(set([tuple(choice) for choice in choices]))]
    kept = []
    for size in sorted(set([len(choice) for choice in distinct])):
        fresh = [choice for choice in distinct
                 if len(choice) == size and not any([contains(choice, other) for other in kept])]
        kept = [*kept, *fresh]
    return kept


def contains(first, second):
    """True if each member of the second list is one of the first."""
    return all([number in first for number in second])


def covers_within(choices, size):
    """The sets of at most that many numbers that have one of each choice, each found once."""
    if len(choices) == 0:
        return [()]
    if are_apart(choices, size):
        return []
    covers = []
    tried = []
    _, branch = min([(len(choice), choice) for choice in choices])
    for number in branch:
        left = [[other for other in choice if other not in tried]
                for choice in choices if number not in choice]
        covers.extend([(number, *cover) for cover in covers_within(left, size - 1)])
        # The covers with this number are all found; further ones do without it.
        tried.append(number)
    return covers


def are_apart(choices, size):
    """True if more than that many of the choices are found that share no member."""
    used = {}
    count = 0
    for choice in choices:
        if not any([number in used for number in choice]):
            count = count + 1
            used = {**used, **{number: True for number in choice}}
        if count > size:
            return True
    return False
