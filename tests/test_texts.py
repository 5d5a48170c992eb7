"""Points 2 and 57 to 62 and the sections shownwrites/lines.py and shownwrites/texts.py."""

import unittest

from shownwrites.bodies import Body
from shownwrites.errors import BadCount, InvalidTable, NotKeyed
from shownwrites.refusals import BadLine, InvalidBook, InvalidRule, NoView
from shownwrites.rules import Rules
from shownwrites.sums import Sums
from shownwrites.tables import Table
from shownwrites.texts import Book
from shownwrites.views import View
from tests.reference import dice_of, plain_tables
from tests.slow_texts import fault_of, lines_of, read_of, shuffled_text, some_book, spoilt_text, text_of

STOCK = Table("stock", ("shop", "code", "amount"), ("code", "shop"))
GOODS = Table("goods", ("code", "kind"), ("code",))
BODY = Body([STOCK, GOODS], [("goods.code", "stock.code")],
            [("goods.kind", "!=", 7), ("goods.kind", "<", 9), ("goods.kind", "!=", -2), ("stock.shop", "=", 4),
             ("goods.code", ">", 0), ("goods.code", ">=", 3)])
LOTS = View(BODY, [("kind", "goods.kind"), ("shop", "stock.shop"), ("code", "goods.code")])
KINDS = Sums(BODY, [("kind", "goods.kind")], [("n", "stock.amount")])
SOME = Rules(LOTS, drop=["goods", "stock"], add=["stock"], defaults=[("stock.amount", -5)],
             change=[("code", "goods.kind", "least"), ("kind", "goods.kind", "greatest")])
BOOK = Book([STOCK, GOODS], [("lots", LOTS), ("goods", KINDS)],
            [("goods", Rules(KINDS, total=[("n", "least value")])), ("lots", SOME)])
TEXT = """table stock
columns shop code amount
key shop code
table goods
columns code kind
key code
view lots
from stock goods
link stock.code goods.code
where stock.shop = 4
where stock.code >= 3
where goods.kind <= 8
where goods.kind != -2
where goods.kind != 7
show kind goods.kind
show shop stock.shop
show code stock.code
sums goods
from stock goods
link stock.code goods.code
where stock.shop = 4
where stock.code >= 3
where goods.kind <= 8
where goods.kind != -2
where goods.kind != 7
by kind goods.kind
total n stock.amount
rules goods
total n least value
rules lots
drop goods stock
add stock
default stock.amount -5
change kind goods.kind greatest
change code goods.kind least
"""
TABLES = "table stock\ncolumns shop code amount\nkey shop code\ntable goods\ncolumns code kind\nkey code\n"
VIEW = "view lots\nfrom stock goods\nlink stock.code goods.code\nshow shop stock.shop\nshow code stock.code\n"
SUMS = "sums all\nfrom stock\nby shop stock.shop\ntotal n stock.amount\n"


class Canonical(unittest.TestCase):
    def test_line_by_line(self):
        self.assertEqual(str(BOOK).split("\n"), TEXT.split("\n"))
        self.assertEqual(text_of(BOOK), TEXT)

    def test_empty(self):
        self.assertEqual(str(Book([])), "")
        book = Book.read("")
        self.assertIs(type(book), Book)
        self.assertEqual((book.tables, book.views, book.rules, str(book)), ((), (), (), ""))

    def test_without_lines(self):
        book = Book([GOODS], [("a", View(Body([GOODS]), [("code", "goods.code")])), ("b", Sums(Body([GOODS]), [], []))],
                    [("b", Rules(Sums(Body([GOODS]), [], []))), ("a", Rules(View(Body([GOODS]), [("code", "goods.code")])))])
        self.assertEqual(str(book), "table goods\ncolumns code kind\nkey code\nview a\nfrom goods\nshow code goods.code\n"
                                    "sums b\nfrom goods\nrules b\nrules a\n")

    def test_links_of_several_columns(self):
        tables = plain_tables("cab")
        body = Body(tables, [("b.k", "a.k"), ("a.k", "c.x"), ("a.x", "b.x")], [("b.k", "<=", 4), ("b.y", "=", -1)])
        view = View(body, [("n", "b.k"), ("m", "c.k"), ("x", "b.x")])
        book = Book(tables, [("v", view)], [("v", Rules(view, defaults=[("a.y", 3), ("c.y", 2)]))])
        self.assertEqual(lines_of(str(book))[9:], [
            "view v", "from c a b", "link c.x a.k", "link c.x b.k", "link a.x b.x", "where c.x <= 4", "where b.y = -1",
            "show n c.x", "show m c.k", "show x a.x", "rules v", "default c.y 2", "default a.y 3"])

    def test_books_of_all_kinds(self):
        dice = dice_of(201)
        for _ in range(200):
            book = some_book(dice)
            self.assertEqual(str(book), text_of(book))

    def test_big_numbers(self):
        low = -(10 ** 39)
        view = View(Body([GOODS], [], [("goods.code", ">=", low)]), [("code", "goods.code")])
        text = str(Book([GOODS], [("v", view)]))
        self.assertEqual(lines_of(text)[5], f"where goods.code >= {low}")
        self.assertEqual(str(Book.read(text)), text)
        # A number that is too long to be written does no harm where nothing is written.
        for number in (10 ** 5000, 10 ** 5000 + 1):
            long = View(Body([GOODS], [], [("goods.code", ">=", number)]), [("code", "goods.code")])
            book = Book([GOODS], [("v", long)], [("v", Rules(View(long.body, [("code", "goods.code")])))])
            self.assertIs(book.view_of("v"), long)


class Books(unittest.TestCase):
    def check(self, name, *parts):
        with self.assertRaises(InvalidBook) as caught:
            Book(*parts)
        self.assertEqual(caught.exception.name, name)

    def test_attributes(self):
        rules = Rules(LOTS)
        tables, views, held = [STOCK, GOODS], [("lots", LOTS), ("stock", KINDS)], [("lots", rules)]
        book = Book(tables, views, held)
        self.assertEqual((book.tables, book.views, book.rules), ((STOCK, GOODS), tuple(views), tuple(held)))
        text = str(book)
        tables.clear()
        views.append(("more", LOTS))
        held[0] = ("stock", rules)
        self.assertEqual(str(book), text)
        same = Book((STOCK, GOODS), (("lots", LOTS), ("stock", KINDS)), (("lots", rules),))
        self.assertEqual(str(same), text)
        for part in (book.tables, book.views, book.rules):
            self.assertIs(type(part), tuple)

    def test_by_names(self):
        self.assertIs(BOOK.view_of("lots"), LOTS)
        self.assertIs(BOOK.view_of("goods"), KINDS)
        self.assertIs(BOOK.rules_of("lots"), SOME)
        self.assertIsNone(Book([STOCK, GOODS], [("lots", LOTS)]).rules_of("lots"))
        for name in ("", "stock", "Lots", "lots "):
            for call in (BOOK.view_of, BOOK.rules_of, Book([]).view_of, Book([]).rules_of):
                with self.assertRaises(NoView) as caught:
                    call(name)
                self.assertEqual(caught.exception.name, name)

    def test_tables(self):
        other = Table("goods", ("code",), ("code",))
        for tables, name in (([GOODS, STOCK, GOODS], "goods"), ([STOCK, GOODS, other, STOCK], "goods"),
                             ([STOCK, STOCK, GOODS, GOODS], "stock")):
            self.check(name, tables)
            self.check(name, tables, [("A", LOTS)], [("none", SOME)])

    def test_views(self):
        for name in ("", "A", "a b", "a.b", "x" * 21, "1"):
            self.check(name, [STOCK, GOODS], [("lots", LOTS), (name, KINDS)])
            self.check(name, [], [(name, KINDS)], [("none", SOME)])
        self.check("lots", [STOCK, GOODS], [("lots", LOTS), ("lots", KINDS)])
        self.check("b", [STOCK, GOODS], [("a", LOTS), ("b", KINDS), ("c", LOTS), ("b", KINDS), ("c", LOTS)])
        turned = Table("goods", ("code", "kind"), ("kind",))
        for tables in ([STOCK], [GOODS], [], [STOCK, turned], [turned, STOCK]):
            self.check("v", tables, [("v", LOTS), ("B", LOTS)])
            self.check("v", tables, [("v", KINDS)], [("none", SOME)])
        # The name of a view comes before its body.
        self.check("v", [GOODS], [("v", View(Body([GOODS]), [("code", "goods.code")])), ("v", LOTS)])

    def test_rules(self):
        views = [("lots", LOTS), ("kinds", KINDS)]
        tables = [STOCK, GOODS]
        self.check("none", tables, views, [("lots", SOME), ("none", SOME)])
        self.check("goods", tables, views, [("goods", SOME), ("lots", SOME), ("lots", SOME)])
        self.check("lots", tables, views, [("lots", SOME), ("lots", SOME), ("none", SOME)])
        self.check("kinds", tables, views, [("kinds", SOME)])
        self.check("lots", tables, views, [("lots", Rules(KINDS))])
        self.check("lots", tables, views, [("lots", SOME), ("lots", Rules(KINDS))])
        names = list(zip(LOTS.names, LOTS.heads))
        turned = Body([GOODS, STOCK], [("goods.code", "stock.code")], [("goods.code", ">=", 3)])
        for body, shown in ((BODY, names[::-1]), (BODY, [*names, ("n", "stock.amount")]),
                            (BODY, [("kinds", "goods.kind"), *names[1:]]), (turned, names),
                            (Body([STOCK, GOODS], [("goods.code", "stock.code")]), names)):
            self.check("lots", tables, views, [("lots", Rules(View(body, shown)))])

    def test_rules_of_a_view_with_the_same_lines(self):
        body = Body([STOCK, GOODS], [("stock.code", "goods.code"), ("goods.code", "goods.code")],
                    [("stock.code", ">=", 3), ("stock.shop", "=", 4), ("goods.kind", "<=", 8), ("goods.kind", "!=", -2),
                     ("goods.kind", "!=", 7), ("goods.kind", "!=", 100)])
        view = View(body, [("kind", "goods.kind"), ("shop", "stock.shop"), ("code", "stock.code")])
        rules = Rules(view, drop=["stock"])
        self.assertIs(Book([STOCK, GOODS], [("lots", LOTS)], [("lots", rules)]).rules_of("lots"), rules)


class Reading(unittest.TestCase):
    def test_canonical(self):
        for text in (TEXT, TEXT[:-1]):
            book = Book.read(text)
            self.assertEqual(str(book), TEXT)
            self.assertEqual(book.tables, (STOCK, GOODS))
            self.assertEqual([name for name, _ in book.views], ["lots", "goods"])
            self.assertEqual(book.view_of("lots").body, BODY)
            self.assertEqual(book.rules_of("lots").change_picks, SOME.change_picks[::-1])
            self.assertIs(book.rules_of("lots").view, book.view_of("lots"))

    def test_other_order(self):
        sections = ["table b\ncolumns k x\nkey k\n", "view v\nfrom b\nwhere b.x > 2\nwhere b.x != 3\nshow n b.k\n",
                    "rules v\nchange n b.x least\n", "table a\ncolumns k\nkey k\n", "sums b\nfrom a b\nlink b.k a.k\n"]
        canonical = ("table b\ncolumns k x\nkey k\ntable a\ncolumns k\nkey k\nview v\nfrom b\nwhere b.x >= 4\n"
                     "show n b.k\nsums b\nfrom a b\nlink a.k b.k\nrules v\nchange n b.x least\n")
        for order in ([0, 1, 2, 3, 4], [0, 1, 3, 2, 4], [0, 1, 3, 4, 2], [0, 3, 1, 2, 4]):
            text = "".join(sections[at] for at in order)
            self.assertEqual(str(Book.read(text)), canonical)
            self.assertEqual(str(Book.read(text[:-1])), canonical)

    def test_any_order(self):
        dice = dice_of(202)
        for _ in range(150):
            book = some_book(dice)
            text = shuffled_text(dice, book)
            found = Book.read(text)
            self.assertEqual(sorted(lines_of(str(found))), sorted(lines_of(str(book))))
            self.assertEqual(str(Book.read(str(found))), str(found))
            self.assertEqual(sorted(table.name for table in found.tables), sorted(table.name for table in book.tables))

    def test_numbers(self):
        for word in ("0", "7", "-7", "1" * 40, "-" + "9" * 40):
            text = TABLES + f"view v\nfrom goods\nwhere goods.kind = {word}\nshow c goods.code\n"
            self.assertEqual(Book.read(text).view_of("v").body.fixed("goods.kind"), int(word))


class BadLines(unittest.TestCase):
    def check(self, text, line, reason, cause=None):
        # The last newline may be missing, but not that of an empty line.
        for some in (text,) if text.endswith("\n\n") or text == "\n" else (text, text[:-1]):
            with self.assertRaises(BadLine) as caught:
                Book.read(some)
            error = caught.exception
            self.assertEqual((error.line, error.reason), (line, reason), some)
            self.assertEqual(error.__cause__ and type(error.__cause__), cause)
        if reason != "refused":
            self.assertEqual(fault_of(text), (line, reason))

    def test_words(self):
        for line in ("", " ", "table", "table  a", " table a", "table a ", "table a b", "Table a", "tables a", "end",
                     "columns", "key", "view", "view a b", "sums", "sums a b", "from", "link a.b", "link a.b c.d e.f",
                     "where a.b =", "where a.b = 1 2", "where a.b == 1", "where a.b <> 1", "where a.b a 1", "show a",
                     "show a b.c d", "by a", "by a b.c d", "total", "total a", "total a least key b",
                     "total a b.c key", "total a least b", "total a least least", "total a Least key", "total a greatest keys", "rules",
                     "rules a b", "drop", "add", "default a.b", "default a.b 1 2", "change a b.c", "change a b.c d",
                     "change a b.c least key", "change a b.c LEAST", "total\ta", "table\ta", "\ttable a",
                     "# a", "total pick a least key"):
            self.check(line + "\n", 1, "words")
            self.check(TABLES + line + "\n" + VIEW, 7, "words")

    def test_total_with_three_words(self):
        self.check("total a least\n", 1, "place")
        self.check(TABLES + SUMS + "total a least\n", 11, "name")
        self.check(TABLES + VIEW + "rules lots\ntotal a stock.amount\n", 13, "place")
        self.check(TABLES + SUMS + "total a least key\n", 11, "place")

    def test_place(self):
        for line in ("columns a", "key a", "from a", "link a.b c.d", "where a.b = 1", "show a b.c", "by a b.c", "total a b.c",
                     "drop a", "add a", "default a.b 1", "change a b.c least", "total a least key"):
            self.check(line + "\n", 1, "place")
            self.check(TABLES + line + "\n" + VIEW, 7, "place")
        for text, line in (("table a\n", 2), ("table a\ncolumns a\n", 3), ("table a\nkey a\n", 2), ("view a\n", 2),
                           ("sums a\n", 2), (TABLES + "view a\n", 8), ("table a\ntable b\n", 2),
                           ("table a\ncolumns a\ncolumns b\n", 3), ("table a\ncolumns a\nkey a\nkey a\n", 4),
                           ("table a\ncolumns a\nrules a\n", 3), ("view a\nshow a b.c\n", 2), ("view a\nview b\n", 2),
                           ("view a\nfrom b\nfrom b\n", 3), ("view a\nfrom b\nwhere a.b = 1\nlink a.b c.d\n", 4),
                           ("view a\nfrom b\nshow a b.c\nwhere a.b = 1\n", 4), ("view a\nfrom b\nby a b.c\n", 3),
                           ("view a\nfrom b\ntotal a b.c\n", 3), ("sums a\nfrom b\nshow a b.c\n", 3),
                           ("sums a\nfrom b\ntotal a b.c\nby a b.c\n", 4), ("sums a\nfrom b\nby a b.c\nlink a.b c.d\n", 4),
                           ("rules a\ndrop a\ndrop a\n", 3), ("rules a\nadd a\ndrop a\n", 3), ("rules a\nadd a\nadd a\n", 3),
                           ("rules a\ndefault a.b 1\nadd a\n", 3), ("rules a\nchange a b.c least\ndefault a.b 1\n", 3),
                           ("rules a\ntotal a least key\nchange a b.c least\n", 3), ("rules a\nfrom a\n", 2),
                           ("rules a\ntotal a b.c\n", 2)):
            self.check(text, line, "place")

    def test_names(self):
        for word in ("A", "1", "_a", "a-b", "a.b", "x" * 21, "a\t", "a\r", "\u00e9", "a\u0661"):
            for text, line in ((f"table {word}\n", 1), (f"table a\ncolumns b {word}\n", 2), (f"table a\ncolumns a\nkey {word} a\n", 3),
                               (f"view {word}\n", 1), (f"sums {word}\n", 1), (f"view a\nfrom a {word}\n", 2),
                               (f"view a\nfrom a\nshow {word} a.b\n", 3), (f"sums a\nfrom a\nby {word} a.b\n", 3),
                               (f"sums a\nfrom a\ntotal {word} a.b\n", 3), (f"rules {word}\n", 1), (f"rules a\ndrop b {word}\n", 2),
                               (f"rules a\nadd {word}\n", 2), (f"rules a\nchange {word} a.b least\n", 2),
                               (f"rules a\ntotal {word} least key\n", 2)):
                self.check(text, line, "name")
        for word in ("a", "a.b.c", ".a", "a.", ".", "A.b", "a.B", "1.a", "a.1", "a..b", "x" * 21 + ".a", "a." + "x" * 21):
            for text, line in ((f"view a\nfrom a\nlink a.b {word}\n", 3), (f"view a\nfrom a\nlink {word} a.b\n", 3),
                               (f"view a\nfrom a\nwhere {word} = 1\n", 3), (f"view a\nfrom a\nshow a {word}\n", 3),
                               (f"sums a\nfrom a\nby a {word}\n", 3), (f"sums a\nfrom a\ntotal a {word}\n", 3),
                               (f"rules a\ndefault {word} 1\n", 2), (f"rules a\nchange a {word} least\n", 2)):
                self.check(text, line, "name")

    def test_number(self):
        for word in ("-0", "00", "01", "-01", "+1", "--1", "-", "1-", "a", "1.0", "1_0", "0x1", "1" * 41, "-" + "1" * 41,
                     "0" * 2, "\u0661", "1\t", "\u00b2"):
            self.check(f"view a\nfrom a\nwhere a.b = {word}\n", 3, "number")
            self.check(f"rules a\ndefault a.b {word}\n", 2, "number")

    def test_several_faults(self):
        self.check("table A\ntable  b\n", 1, "name")
        self.check("table a\nkey A\n", 2, "place")
        self.check("table a\nkey  A\n", 2, "words")
        self.check("view a\nfrom a\nwhere A.b = 01\n", 3, "name")
        self.check("view a\nfrom a\nwhere A.b == 01\n", 3, "words")
        self.check("where A.b = 01\n", 1, "place")
        self.check("rules a\ndefault a.b 01\ntable A\n", 2, "number")
        # A fault of a line comes before all sections that are refused.
        self.check("table a\ncolumns b b\nkey b\nview A\n", 4, "name")
        self.check("table a\ncolumns b b\nkey b\nview a\n", 5, "place")

    def test_refused(self):
        for text, line, cause in (
                ("table a\ncolumns b b\nkey b\n", 1, InvalidTable), ("table a\ncolumns b\nkey c\n", 1, InvalidTable),
                ("table a\ncolumns b\nkey b b\n", 1, InvalidTable),
                (TABLES + "table stock\ncolumns a\nkey a\n", 7, None), (TABLES + VIEW + VIEW, 12, None),
                (TABLES + VIEW + SUMS.replace("all", "lots"), 12, None), (VIEW + TABLES, 1, None),
                (TABLES + "view a\nfrom stock none\nshow a stock.code\n", 7, None),
                (TABLES + "view stock\nfrom stock\nshow a stock.code\n", 7, NotKeyed),
                (TABLES + "rules lots\n" + VIEW, 7, None), (TABLES + "rules stock\n", 7, None),
                (TABLES + VIEW + "rules lots\nrules lots\n", 13, None),
                (TABLES + VIEW + "rules lots\nadd stock\n", 12, InvalidRule),
                (TABLES + VIEW + "rules lots\ntotal n least key\n", 12, InvalidRule),
                (TABLES + SUMS + "rules all\nchange shop stock.amount least\n", 11, InvalidRule)):
            self.check(text, line, "refused", cause)
        many = "".join(f"table {name}\ncolumns a\nkey a\n" for name in "abcdefg")
        self.check(many + "sums v\nfrom a b c d e f g\n", 22, "refused", BadCount)
        # The first section that cannot be made is told.
        self.check(TABLES + SUMS + "table x\ncolumns b b\nkey b\n" + SUMS, 11, "refused", InvalidTable)
        self.check(TABLES + SUMS + SUMS + "table x\ncolumns b b\nkey b\n", 11, "refused")

    def test_spoilt_texts(self):
        dice = dice_of(203)
        reasons = {}
        for _ in range(250):
            book = some_book(dice)
            for _ in range(12):
                text = spoilt_text(dice, shuffled_text(dice, book))
                expected = fault_of(text) or read_of(text)
                if isinstance(expected, Book):
                    self.assertEqual(str(Book.read(text)), str(expected))
                    reason = "good"
                else:
                    with self.assertRaises(BadLine) as caught:
                        Book.read(text)
                    error = caught.exception
                    reason = error.reason
                    cause = error.__cause__ and type(error.__cause__)
                    self.assertEqual((error.line, cause if reason == "refused" else reason), expected, text)
                reasons[reason] = reasons.get(reason, 0) + 1
        for reason in ("good", "words", "place", "name", "number", "refused"):
            self.assertGreater(reasons.get(reason, 0), 5, reasons)


if __name__ == "__main__":
    unittest.main()
