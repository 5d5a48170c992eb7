"""The text of books by the words of points 58 to 61, and books and texts to try."""

import re

from shownwrites.bodies import Body
from shownwrites.errors import ShownError
from shownwrites.rules import Rules
from shownwrites.sums import Sums
from shownwrites.tables import Table
from shownwrites.texts import Book
from shownwrites.views import View
from tests.reference import body_over, some_shown, some_sums, some_table
from tests.slow_rules import some_rules
from tests.slow_verdicts import is_view

# Each kind of line has a letter, so that places can be told by a pattern over the letters.
FORMS = [
    ("T", r"table W"), ("c", r"columns W+"), ("k", r"key W+"), ("V", r"view W"), ("S", r"sums W"), ("f", r"from W+"),
    ("l", r"link C C"), ("w", r"where C (=|!=|<|<=|>|>=) N"), ("s", r"show W C"), ("b", r"by W C"), ("t", r"total W C"),
    ("R", r"rules W"), ("d", r"drop W+"), ("a", r"add W+"), ("D", r"default C N"),
    ("h", r"change W C (least|greatest)"), ("p", r"total W (least|greatest) (key|value)"),
]
SECTIONS = "(Tck|Vfl*w*s*|Sfl*w*b*t*|Rd?a?D*h*p*)*"
NAME = re.compile(r"[a-z][a-z0-9_]{0,19}", re.ASCII)
COLUMN = re.compile(r"[a-z][a-z0-9_]{0,19}\.[a-z][a-z0-9_]{0,19}", re.ASCII)
NUMBER = re.compile(r"0|-?[1-9][0-9]{0,39}", re.ASCII)


def pattern_of(form):
    """The pattern of a form; W is a name, C a column, N a number, W+ one name or more."""
    form = form.replace(" W+", "(?P<W>(?: [^ \n]+)+)")
    for letter in "WCN":
        form = re.sub(rf"(?<= ){letter}\b", r"([^ \\n]+)", form)
    return re.compile(form)


PATTERNS = [(letter, form.split(" ")[1:], pattern_of(form)) for letter, form in FORMS]


def lines_of(text):
    """The lines of a text."""
    if text.endswith("\n"):
        text = text[:-1]
    elif text == "":
        return []
    return text.split("\n")


def letter_of(line):
    """The letter of a line's kind and the parts of its form, or None."""
    for letter, parts, pattern in PATTERNS:
        if pattern.fullmatch(line):
            return letter, parts
    return None


def fault_of(text):
    """The line and the reason of the first fault of a line, or None."""
    letters = ""
    for number, line in enumerate(lines_of(text), start=1):
        told = letter_of(line)
        if told is None:
            return (number, "words")
        letters += told[0]
        if not re.fullmatch(SECTIONS + "(T|Tc|V|S)?", letters):
            return (number, "place")
        words = line.split(" ")[1:]
        parts = told[1] if told[1] != ["W+"] else ["W"] * len(words)
        for part, word in zip(parts, words):
            if part == "W" and not NAME.fullmatch(word) or part == "C" and not COLUMN.fullmatch(word):
                return (number, "name")
        if any(part == "N" and not NUMBER.fullmatch(word) for part, word in zip(parts, words)):
            return (number, "number")
    if not re.fullmatch(SECTIONS, letters):
        return (len(lines_of(text)) + 1, "place")
    return None


def sections_of(text):
    """The number of the first line and the split lines of each section of a text without such faults."""
    sections = []
    for number, line in enumerate(lines_of(text), start=1):
        words = line.split(" ")
        if words[0] in ("table", "view", "sums", "rules"):
            sections.append((number, []))
        sections[-1][1].append(words)
    return sections


def made_of(tables, views, lines):
    """The table, the view, the sums or the rules of a section."""
    def told(word, length=0):
        return [tuple(words[1:]) for words in lines if words[0] == word and len(words) >= length]

    def flat(word):
        return [name for names in told(word) for name in names]

    name = lines[0][1]
    if lines[0][0] == "table":
        return Table(name, flat("columns"), flat("key"))
    if lines[0][0] == "rules":
        return Rules(views[name], drop=flat("drop"), add=flat("add"),
                     defaults=[(column, int(number)) for column, number in told("default")], change=told("change"),
                     total=[(total, f"{pick} {part}") for total, pick, part in told("total")])
    body = Body([tables[name] for name in flat("from")], told("link"),
                [(column, sign, int(number)) for column, sign, number in told("where")])
    return View(body, told("show")) if lines[0][0] == "view" else Sums(body, told("by"), told("total"))


def read_of(text):
    """The book of a text without faults of lines, or the line of the first refused section and its cause."""
    tables, views, rules = {}, {}, {}
    for number, lines in sections_of(text):
        word, name = lines[0]
        used = [other for words in lines if words[0] == "from" for other in words[1:]]
        if any(other not in tables for other in used) or word == "rules" and name not in views:
            return (number, None)
        try:
            made = made_of(tables, views, lines)
        except ShownError as error:
            return (number, type(error))
        held = tables if word == "table" else rules if word == "rules" else views
        if name in held:
            return (number, None)
        held[name] = made
    return Book(list(tables.values()), list(views.items()), list(rules.items()))


def body_text(body):
    """The lines of a body."""
    lines = ["from " + " ".join(table.name for table in body.tables)]
    for members in body.classes:
        lines += [f"link {members[0]} {column}" for column in members[1:]]
    for members in body.classes:
        region = body.region(members[0])
        if body.fixed(members[0]) is not None:
            lines.append(f"where {members[0]} = {body.fixed(members[0])}")
        else:
            lines += [f"where {members[0]} >= {region.low}"] if region.low is not None else []
            lines += [f"where {members[0]} <= {region.high}"] if region.high is not None else []
            lines += [f"where {members[0]} != {number}" for number in region.without]
    return lines


def shown_text(name, shown):
    """The lines of a view or of sums."""
    if is_view(shown):
        return [f"view {name}", *body_text(shown.body),
                *[f"show {word} {head}" for word, head in zip(shown.names, shown.heads)]]
    return [f"sums {name}", *body_text(shown.body),
            *[f"by {word} {head}" for word, head in zip(shown.by_names, shown.by_heads)],
            *[f"total {word} {head}" for word, head in zip(shown.total_names, shown.total_heads)]]


def rules_text(name, rules):
    """The lines of rules."""
    body = rules.view.body
    lines = [f"rules {name}"]
    lines += ["drop " + " ".join(rules.drop_tables)] if rules.drop_tables else []
    lines += ["add " + " ".join(rules.add_tables)] if rules.add_tables else []
    for members in body.classes:
        lines += [f"default {members[0]} {number}" for column, number in rules.defaults if column in members]
    for word in rules.view.names if is_view(rules.view) else rules.view.total_names:
        lines += [f"change {word} {cell} {pick}" for told, cell, pick in rules.change_picks if told == word]
        lines += [f"total {word} {pick}" for told, pick in rules.total_words if told == word]
    return lines


def sections_text(book):
    """The lines of each section of the canonical text, in three lists."""
    return ([[f"table {table.name}", "columns " + " ".join(table.columns), "key " + " ".join(table.key)]
             for table in book.tables],
            [shown_text(name, shown) for name, shown in book.views],
            [rules_text(name, rules) for name, rules in book.rules])


def text_of(book):
    """The canonical text of a book, by point 61."""
    return "".join(line + "\n" for part in sections_text(book) for lines in part for line in lines)


def shuffled_text(dice, book):
    """A text of the book whose sections stand in another order, which point 59 allows."""
    tables, views, rules = [dice.sample(part, len(part)) for part in sections_text(book)]
    sections = []
    left = [*tables, *views, *rules]
    while left:
        names = {lines[0] for lines in sections}
        ready = [lines for lines in left if is_ready(lines, names)]
        sections.append(dice.choice(ready))
        left.remove(sections[-1])
    text = "".join(line + "\n" for lines in sections for line in lines)
    return text[:-1] if dice.random() < 0.5 else text


def is_ready(lines, names):
    """True if all that a section uses stands above it; the first lines of the sections above are given."""
    word, name = lines[0].split(" ")
    if word == "rules":
        return f"view {name}" in names or f"sums {name}" in names
    used = [other for line in lines if line.startswith("from ") for other in line.split(" ")[1:]]
    return all(f"table {other}" in names for other in used)


def some_book(dice):
    """A book with some tables, views, sums and rules."""
    tables = [some_table(dice, name) for name in dice.sample(["p", "q", "r", "s"], dice.randint(1, 4))]
    views = []
    for name in dice.sample(["p", "all", "n1", "a_b", "x" * 20], dice.randint(0, 4)):
        body = body_over(dice, dice.sample(tables, dice.randint(1, min(3, len(tables)))))
        shown = View(body, some_shown(dice, body)) if dice.random() < 0.5 else Sums(body, *some_sums(dice, body))
        views.append((name, shown))
    ruled = dice.sample(views, dice.randint(0, len(views)))
    return Book(tables, views, [(name, some_rules(dice, shown)) for name, shown in ruled])


def spoilt_text(dice, text):
    """The text with one fault or more, or perhaps none."""
    lines = lines_of(text)
    for _ in range(dice.choice([1, 1, 1, 2, 3])):
        at = dice.randint(0, len(lines) - 1) if lines else 0
        words = lines[at].split(" ") if lines else ["table"]
        place = dice.randint(0, len(words) - 1)
        kind = dice.randint(0, 9)
        if kind == 0:
            words[place] = dice.choice(["", "A", "a.b", "a", "p", "p.a", "1", "-0", "00", "5", "least", "key", "x" * 21,
                                        "=", "<>", "p.a.b", "q.", "\t", "-7", "1" * 41, "9" * 40, "a\r", "view"])
        elif kind == 1:
            words.insert(place, dice.choice(["", "a", "p.a", "1", "least"]))
        elif kind == 2:
            del words[place]
        elif kind == 3:
            words[0] = dice.choice(["table", "columns", "key", "view", "sums", "from", "link", "where", "show", "by",
                                    "total", "rules", "drop", "add", "default", "change", "Table", "end"])
        elif kind == 4 and place:
            words[place] = words[1]
        other = dice.randint(0, len(lines) - 1) if lines else 0
        if kind <= 4:
            lines[at:at + 1] = [" ".join(words)]
        elif kind == 5:
            lines[at:at + 1] = []
        elif kind == 6:
            lines.insert(other, lines[at] if lines else "")
        elif kind == 7 and lines:
            lines[at], lines[other] = lines[other], lines[at]
        elif kind == 8:
            lines = lines[:at]
        elif kind == 9:
            lines[at:at] = [dice.choice(["", "table a", "view p", "rules n1", "columns a", "where p.a = 3"])]
    return "".join(line + "\n" for line in lines)
