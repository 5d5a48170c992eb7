"""The fewest columns to show, so that a view is keyed and no wished write is ambiguous."""

from shownwrites.bodies import known_names
from shownwrites.changeverdicts import change_verdict
from shownwrites.changing import check_cells
from shownwrites.closures import in_class_order, split
from shownwrites.errors import BadCount, FixedColumn, MustShow, NothingShown
from shownwrites.parts import subsets
from shownwrites.verdicts import add_verdict
from shownwrites.views import View

MOST_FREE = 8


def view_of(body, heads):
    """The view that shows these classes in class order under the names c1, c2 and so on."""
    classes = [members[0] for members in body.classes]
    places = sorted([classes.index(body.head(column)) for column in heads])
    return View(body, [(f"c{number}", classes[place]) for number, place in enumerate(places, start=1)])


def fewest(body, must, *, add=None, change=()):
    """The fewest classes to show, with a paper against each candidate that comes before them."""
    shown = must_heads(body, must)
    names = None if add is None else known_names(body, add)
    for column, cells in change:
        if body.head(column) not in shown:
            raise MustShow(column)
        check_cells(body, cells)
    free = [head for head in body.open_heads if head not in shown]
    if len(free) > MOST_FREE:
        raise BadCount(len(free))
    if len(body.open_heads) == 0:
        raise NothingShown()
    papers = []
    # The last candidate, all open classes, is always good.
    for heads in candidates(body, shown, free):
        paper = paper_against(body, heads, names, change)
        if paper is None:
            return Fewest(heads, papers)
        papers.append((heads, paper))


def must_heads(body, must):
    """The heads of the classes that must be shown."""
    for column in must:
        if body.fixed(column) is not None:
            raise FixedColumn(column)
    return in_class_order(body, [body.head(column) for column in must])


def candidates(body, shown, free):
    """The sets of open classes with those that must be shown: small ones first, then by their places.

    The free classes alone are in this order already, and what all sets have in common does not change it.
    """
    chosen = [some for size in range(len(free) + 1) for some in subsets(free, size)]
    found = [in_class_order(body, [*shown, *some]) for some in chosen]
    return [heads for heads in found if len(heads) > 0]


def paper_against(body, heads, names, change):
    """A split or a case that shows why the candidate is not good, or None if it is."""
    parted = split(body, heads)
    if parted is not None:
        return parted
    view = view_of(body, heads)
    if names is not None:
        case = add_verdict(view, names).several
        if case is not None:
            return case
    for column, cells in change:
        name = view.names[view.heads.index(body.head(column))]
        case = change_verdict(view, name, cells).several
        if case is not None:
            return case
    return None


class Fewest:
    """The fewest columns, and for each earlier candidate its heads and the paper against it."""

    def __init__(self, columns, papers):
        self.columns = columns
        self.papers = papers
