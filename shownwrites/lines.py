"""The lines of a book's text: their forms, their places in sections, and the faults that they can have."""

from shownwrites.refusals import BadLine
from shownwrites.tables import is_name

# The kind of a total line of the second form has a space, so that no first word of a line is equal to it.
TOTAL_PICK = "total pick"
FORMS = {
    "table": ("name",),
    "columns": ("names",),
    "key": ("names",),
    "view": ("name",),
    "sums": ("name",),
    "from": ("names",),
    "link": ("column", "column"),
    "where": ("column", "sign", "number"),
    "show": ("name", "column"),
    "by": ("name", "column"),
    "total": ("name", "column"),
    "rules": ("name",),
    "drop": ("names",),
    "add": ("names",),
    "default": ("column", "number"),
    "change": ("name", "column", "pick"),
    "total pick": ("name", "pick", "part"),
}
CHOICES = {
    "sign": ("=", "!=", "<", "<=", ">", ">="),
    "pick": ("least", "greatest"),
    "part": ("key", "value"),
}
# The lines that may follow the first line of a section, in their order.
ORDERS = {
    "table": ("columns", "key"),
    "view": ("from", "link", "where", "show"),
    "sums": ("from", "link", "where", "by", "total"),
    "rules": ("drop", "add", "default", "change", "total pick"),
}
NEEDED = ("columns", "key", "from")
ONCE = ("columns", "key", "from", "drop", "add")
DIGITS = "0123456789"
MOST_DIGITS = 40
END = "end"


def sections_of(text):
    """The sections of a text: the number, the kind and the name of the first line, and the further lines.

    These are pairs of the kind of the line and its arguments.
    """
    sections = []
    order = ()
    last = None
    lines = lines_of(text)
    for number, line in enumerate(lines, start=1):
        words = line.split(" ")
        kind = kind_of(words)
        check_line(number, kind, words[1:], order, last)
        if kind in ORDERS:
            order = ORDERS[kind]
            sections.append((number, kind, words[1], []))
        else:
            sections[-1][3].append((kind, arguments_of(kind, words[1:])))
        last = kind
    if not may_follow(order, last, END):
        raise BadLine(len(lines) + 1, "place")
    return sections


def lines_of(text):
    """The lines of a text, without their newlines."""
    lines = text.split("\n")
    return lines[:-1] if lines[-1] == "" else lines


def kind_of(words):
    """The kind of a line with these words, or None if it has none of the forms."""
    kind = TOTAL_PICK if words[0] == "total" and len(words) == 4 else words[0]
    if "" in words or kind not in FORMS:
        return None
    given = words[1:]
    forms = forms_of(kind, given)
    if len(given) == 0 or len(forms) != len(given):
        return None
    chosen = [(form, word) for form, word in zip(forms, given) if form in CHOICES]
    return kind if all([word in CHOICES[form] for form, word in chosen]) else None


def forms_of(kind, words):
    """What each of the words behind the first one should be."""
    if FORMS[kind] == ("names",):
        return ["name" for _ in words]
    return list(FORMS[kind])


def check_line(number, kind, words, order, last):
    """Raise an error if the line has a fault: the first one by the order of the reasons."""
    if kind is None:
        raise BadLine(number, "words")
    if not may_follow(order, last, kind):
        raise BadLine(number, "place")
    forms = list(zip(forms_of(kind, words), words))
    if not all([is_named(form, word) for form, word in forms]):
        raise BadLine(number, "name")
    if not all([is_number(word) for form, word in forms if form == "number"]):
        raise BadLine(number, "number")


def may_follow(order, last, kind):
    """True if a line of this kind may stand behind one of the last kind, in a section of this order.

    None is the last kind before the first line, and END is the kind of the end of the text.
    """
    place = order.index(last) if last in order else -1
    if kind in order:
        at = order.index(kind)
    elif kind in ORDERS or kind == END:
        at = len(order)
    else:
        return False
    if at == place:
        return kind not in ONCE
    return at > place and not any([skipped in NEEDED for skipped in order[place + 1:at]])


def is_named(form, word):
    """True if the word is no name or column, or one that is written rightly."""
    if form == "name":
        return is_name(word)
    if form == "column":
        parts = word.split(".")
        return len(parts) == 2 and all([is_name(part) for part in parts])
    return True


def is_number(word):
    """True if the word is a number with at most 40 digits."""
    digits = word[1:] if word.startswith("-") else word
    if len(digits) == 0 or len(digits) > MOST_DIGITS or not all([digit in DIGITS for digit in digits]):
        return False
    return word == "0" or not digits.startswith("0")


def arguments_of(kind, words):
    """The words behind the first one, numbers as integers."""
    forms = forms_of(kind, words)
    return tuple([int(word) if form == "number" else word for form, word in zip(forms, words)])
