"""Books: tables, named shown views and their rules, and the text that describes them."""

from shownwrites.bodies import Body
from shownwrites.errors import ShownError
from shownwrites.lines import TOTAL_PICK, sections_of
from shownwrites.refusals import BadLine, InvalidBook, NoView
from shownwrites.regions import conditions_of
from shownwrites.rules import Rules, default_numbers
from shownwrites.sums import Sums
from shownwrites.tables import Table, is_name
from shownwrites.views import View


def check_tables(tables):
    """Raise an error for the first table whose name an earlier one has."""
    named = {}
    for table in tables:
        if table.name in named:
            raise InvalidBook(table.name)
        named[table.name] = True


def check_views(tables, views):
    """Raise an error for the first view whose name or whose tables a book cannot have."""
    named = {}
    for name, shown in views:
        if not is_name(name) or name in named:
            raise InvalidBook(name)
        if not all([table in tables for table in shown.body.tables]):
            raise InvalidBook(name)
        named[name] = True


def check_rules(views, rules):
    """Raise an error for the first rules whose name or whose view is not that of a view of the book."""
    shown = dict(views)
    named = {}
    for name, some in rules:
        if name in named or name not in shown:
            raise InvalidBook(name)
        if shown_lines(name, some.view) != shown_lines(name, shown[name]):
            raise InvalidBook(name)
        named[name] = True


def table_lines(table):
    """The lines that describe the table, each as a tuple of its words."""
    return [("table", table.name), ("columns", *table.columns), ("key", *table.key)]


def shown_lines(name, shown):
    """The lines that describe the view or the sums.

    The numbers in them are integers: lines can be compared even if a number is too long to be written.
    """
    body = body_lines(shown.body)
    if isinstance(shown, View):
        return [("view", name), *body, *named_lines("show", shown.names, shown.heads)]
    by = named_lines("by", shown.by_names, shown.by_heads)
    return [("sums", name), *body, *by, *named_lines("total", shown.total_names, shown.total_heads)]


def named_lines(word, names, heads):
    """A line for each name and the column that is shown under it."""
    return [(word, name, head) for name, head in zip(names, heads)]


def body_lines(body):
    """The lines that describe the body."""
    links = [("link", members[0], column) for members in body.classes for column in members[1:]]
    bounds = [("where", members[0], sign, number) for members in body.classes
              for sign, number in conditions_of(body.region(members[0]))]
    return [("from", *body.names), *links, *bounds]


def rules_lines(name, rules):
    """The lines that describe the rules."""
    drop = [("drop", *rules.drop_tables)] if len(rules.drop_tables) > 0 else []
    add = [("add", *rules.add_tables)] if len(rules.add_tables) > 0 else []
    return [("rules", name), *drop, *add, *default_lines(rules), *pick_lines(rules)]


def default_lines(rules):
    """The lines of the defaults, in class order."""
    numbers = default_numbers(rules)
    heads = [members[0] for members in rules.view.body.classes]
    return [("default", head, numbers[head]) for head in heads if head in numbers]


def pick_lines(rules):
    """The lines of the picks of changes and totals, in the order of the names."""
    if isinstance(rules.view, View):
        picks = {entry[0]: entry for entry in rules.change_picks}
        return [("change", *picks[name]) for name in rules.view.names if name in picks]
    words = {entry[0]: entry for entry in rules.total_words}
    return [("total", *words[name]) for name in rules.view.total_names if name in words]


def line_text(words):
    """The text of a line, with its newline."""
    line = " ".join([str(word) for word in words])
    return f"{line}\n"


def read_parts(text):
    """The tables, the views and the rules that a text describes, each by their names."""
    parts = ({}, {}, {})
    for number, kind, name, lines in sections_of(text):
        if not has_parts(parts, kind, name, lines):
            raise BadLine(number, "refused")
        try:
            made = made_part(parts, kind, name, lines)
        except ShownError as e:
            raise BadLine(number, "refused") from e
        held = held_part(parts, kind)
        if name in held:
            raise BadLine(number, "refused")
        held[name] = made
    return parts


def held_part(parts, kind):
    """What is made already of the kind that a section of this kind makes."""
    tables, views, rules = parts
    if kind == "table":
        return tables
    return rules if kind == "rules" else views


def has_parts(parts, kind, name, lines):
    """True if what the section uses is made already: tables for a view, a view for rules."""
    tables, views, _ = parts
    if kind == "rules":
        return name in views
    return all([used in tables for used in names_of(lines, "from")])


def entries_of(lines, kind):
    """The arguments of the lines of this kind."""
    return [entry for other, entry in lines if other == kind]


def names_of(lines, kind):
    """The names of the line of this kind; none without such a line."""
    return [name for entry in entries_of(lines, kind) for name in entry]


def made_part(parts, kind, name, lines):
    """The table, the view, the sums or the rules that a section describes."""
    tables, views, _ = parts
    if kind == "table":
        return Table(name, names_of(lines, "columns"), names_of(lines, "key"))
    if kind == "rules":
        return made_rules(views[name], lines)
    used = [tables[other] for other in names_of(lines, "from")]
    body = Body(used, entries_of(lines, "link"), entries_of(lines, "where"))
    if kind == "view":
        return View(body, entries_of(lines, "show"))
    return Sums(body, entries_of(lines, "by"), entries_of(lines, "total"))


def made_rules(shown, lines):
    """The rules that a section describes, for this view or sums."""
    words = [(name, f"{pick} {part}") for name, pick, part in entries_of(lines, TOTAL_PICK)]
    return Rules(shown, drop=names_of(lines, "drop"), add=names_of(lines, "add"),
                 defaults=entries_of(lines, "default"), change=entries_of(lines, "change"), total=words)


class Book:
    """Tables, shown views by their names, and rules for some of the views."""

    def __init__(self, tables, views=(), rules=()):
        check_tables(tables)
        check_views(tables, views)
        check_rules(views, rules)
        self.tables = tuple(tables)
        self.views = tuple([(name, shown) for name, shown in views])
        self.rules = tuple([(name, some) for name, some in rules])

    def __str__(self):
        tables = [line for table in self.tables for line in table_lines(table)]
        views = [line for name, shown in self.views for line in shown_lines(name, shown)]
        rules = [line for name, some in self.rules for line in rules_lines(name, some)]
        return "".join([line_text(line) for line in [*tables, *views, *rules]])

    def view_of(self, name):
        """The view or the sums of this name."""
        for other, shown in self.views:
            if other == name:
                return shown
        raise NoView(name)

    def rules_of(self, name):
        """The rules of the view or the sums of this name, or None."""
        self.view_of(name)
        for other, some in self.rules:
            if other == name:
                return some
        return None

    @classmethod
    def read(cls, text):
        """The book that the text describes."""
        tables, views, rules = read_parts(text)
        return cls(list(tables.values()), list(views.items()), list(rules.items()))
