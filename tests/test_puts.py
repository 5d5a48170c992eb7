"""Points 24 and 49 to 51 and the section shownwrites/puts.py."""

import itertools
import unittest

from shownwrites.bodies import Body
from shownwrites.edits import Edit
from shownwrites.errors import NotShown, NoTable, ShownError, Unlike
from shownwrites.puts import put
from shownwrites.refusals import (AlreadyShown, NoDifference, NoMeaning, NoName, NoRule, OutOfRegion, WrongKind,
                                  WrongLength)
from shownwrites.rules import Rules
from shownwrites.stores import Store
from shownwrites.sums import Sums
from shownwrites.tables import Table
from shownwrites.views import View
from shownwrites.writes import Add, Change, Clear, Drop, Total, is_meaning
from tests.reference import (dice_of, linked_sums, linked_views, meaning_of, plain_tables, refusal_of, some_edit,
                             some_shown_view, some_store, some_write, sparse_view, write_by)
from tests.slow_rules import put_of, some_rules
from tests.slow_verdicts import hidden_of, is_view

STOCK = Table("stock", ("shop", "code", "amount"), ("shop", "code"))
GOODS = Table("goods", ("code", "kind"), ("code",))
BODY = Body([STOCK, GOODS], [("stock.code", "goods.code")])
STORE = Store([STOCK, GOODS], {"stock": [(1, 7, 20), (1, 8, 4), (2, 7, 5)], "goods": [(7, 3), (8, 3), (9, 6)]})
SHOWN = [("shop", "stock.shop"), ("code", "stock.code"), ("amount", "stock.amount"), ("kind", "goods.kind")]
LOTS = View(BODY, SHOWN)
FEW = View(Body([STOCK, GOODS], [("stock.code", "goods.code")], [("stock.amount", ">", 0)]), SHOWN)
PAIRS = View(BODY, SHOWN[:2])
KINDS = Sums(BODY, [("kind", "goods.kind")], [("amount", "stock.amount")])
TABLES = ["goods", "stock"]


def told(call):
    """What the call returns, or the name of the error that it raises with the error's arguments."""
    try:
        return call()
    except ShownError as error:
        return (type(error).__name__, *vars(error).values())


class Puts(unittest.TestCase):
    def check(self, rules, store, write, *changes):
        self.assertEqual(put(rules, store, write).changes, changes)

    def nothing(self, rules, store, write):
        with self.assertRaises(NoMeaning) as caught:
            put(rules, store, write)
        self.assertIs(caught.exception.write, write)


class Deletions(Puts):
    def test_drops(self):
        rules = Rules(LOTS, drop=TABLES)
        self.check(rules, STORE, Drop((2, 7, 5, 3)), ("stock", (2, 7), (2, 7, 5), None))
        self.check(rules, STORE, Drop((1, 8, 4, 3)), ("goods", (8,), (8, 3), None))
        turned = Rules(LOTS, drop=TABLES[::-1])
        self.check(turned, STORE, Drop((1, 8, 4, 3)), ("stock", (1, 8), (1, 8, 4), None))
        self.nothing(Rules(LOTS, drop=["goods"]), STORE, Drop((1, 7, 20, 3)))

    def test_clears(self):
        rows = [("stock", (1, 7), (1, 7, 20), None), ("stock", (1, 8), (1, 8, 4), None),
                ("stock", (2, 7), (2, 7, 5), None)]
        self.check(Rules(KINDS, drop=TABLES), STORE, Clear((3,)),
                   ("goods", (7,), (7, 3), None), ("goods", (8,), (8, 3), None))
        self.check(Rules(KINDS, drop=["stock"]), STORE, Clear((3,)), *rows)
        shops = Sums(BODY, [("shop", "stock.shop")], [])
        self.check(Rules(shops, drop=TABLES), STORE, Clear((2,)), rows[2])
        self.check(Rules(shops, drop=TABLES), STORE, Clear((1,)), *rows[:2])
        self.nothing(Rules(shops, drop=["goods"]), STORE, Clear((1,)))
        everything = Sums(BODY, [], [])
        self.check(Rules(everything, drop=TABLES), STORE, Clear(()),
                   ("goods", (7,), (7, 3), None), ("goods", (8,), (8, 3), None))


class Adds(Puts):
    def test_rows_that_are_there(self):
        rules = Rules(LOTS, add=["stock"])
        self.check(rules, STORE, Add((2, 8, 1, 3)), ("stock", (2, 8), None, (2, 8, 1)))
        self.nothing(rules, STORE, Add((2, 8, 1, 6)))
        self.nothing(rules, STORE, Add((2, 6, 1, 6)))
        self.nothing(rules, STORE, Add((2, 7, 6, 3)))
        both = Rules(LOTS, add=TABLES)
        self.check(both, STORE, Add((2, 6, 1, 6)), ("goods", (6,), None, (6, 6)), ("stock", (2, 6), None, (2, 6, 1)))
        self.nothing(Rules(LOTS, add=["goods"]), STORE, Add((2, 9, 1, 6)))

    def test_found_before_defaults(self):
        rules = Rules(PAIRS, add=TABLES, defaults=[("stock.amount", 50), ("goods.kind", 60)])
        self.check(rules, STORE, Add((3, 9)), ("stock", (3, 9), None, (3, 9, 50)))
        self.check(rules, STORE, Add((3, 5)), ("goods", (5,), None, (5, 60)), ("stock", (3, 5), None, (3, 5, 50)))
        store = Store([STOCK, GOODS], {"stock": [(3, 5, 7)]})
        self.check(rules, store, Add((3, 5)), ("goods", (5,), None, (5, 60)))

    def test_found_rows_lead_to_others(self):
        tables = plain_tables("abc")
        view = View(Body(tables, [("a.x", "b.k"), ("b.x", "c.k")]), [("k", "a.k")])
        given = [("a.x", 1), ("a.y", 2), ("b.x", 3), ("b.y", 4), ("c.x", 5), ("c.y", 6)]
        rules = Rules(view, add="abc", defaults=given)
        a, b, c = ("a", (0,), None, (0, 1, 2)), ("b", (1,), None, (1, 3, 4)), ("c", (3,), None, (3, 5, 6))
        self.check(rules, Store(tables), Add((0,)), a, b, c)
        self.check(rules, Store(tables, {"b": [(1, 8, 9)]}), Add((0,)), a, ("c", (8,), None, (8, 5, 6)))
        self.check(rules, Store(tables, {"b": [(1, 8, 9)], "c": [(8, 0, 0)]}), Add((0,)), a)
        self.check(rules, Store(tables, {"a": [(0, 7, 7)], "c": [(3, 0, 0)]}), Add((0,)), ("b", (7,), None, (7, 3, 4)))
        few = Rules(view, add="a", defaults=given[:2])
        self.assertEqual(few.asked, ("a.x", "a.y"))
        self.check(few, Store(tables, {"b": [(1, 8, 9)], "c": [(8, 0, 0)]}), Add((0,)), a)
        self.nothing(few, Store(tables, {"b": [(1, 8, 9)]}), Add((0,)))
        self.nothing(few, Store(tables), Add((0,)))

    def test_default_that_is_missing_in_the_store(self):
        tables = plain_tables("ab")
        view = View(Body(tables, [("a.x", "b.k"), ("a.y", "b.x")]), [("k", "a.k")])
        rules = Rules(view, add=["a"], defaults=[("a.x", 1)])
        self.check(rules, Store(tables, {"b": [(1, 5, 6)]}), Add((0,)), ("a", (0,), None, (0, 1, 5)))
        self.nothing(rules, Store(tables), Add((0,)))
        more = Rules(view, add=["a"], defaults=[("a.x", 1), ("b.x", 5)])
        self.nothing(more, Store(tables), Add((0,)))
        self.check(more, Store(tables, {"b": [(1, 4, 6)]}), Add((0,)), ("a", (0,), None, (0, 1, 4)))

    def test_other_rows_would_show(self):
        tables = plain_tables("ab")
        view = View(Body(tables, [("a.x", "b.x")]), [("k", "a.k"), ("l", "b.k")])
        rules = Rules(view, add="ab", defaults=[("b.x", 1), ("a.y", 2), ("b.y", 3)])
        store = Store(tables, {"b": [(7, 1, 0)]})
        self.nothing(rules, store, Add((0, 8)))
        self.check(rules, store, Add((0, 7)), ("a", (0,), None, (0, 1, 2)))


class Picks(Puts):
    def test_changes(self):
        tables = plain_tables("ab")
        view = View(Body(tables, [("a.x", "b.k")]), [("k", "a.k"), ("v", "b.x")])
        store = Store(tables, {"a": [(1, 1, 0), (2, 1, 0)], "b": [(-2, 6, 0), (1, 5, 0), (3, 6, 0), (9, 6, 1)]})
        for pick, number in (("least", -2), ("greatest", 9)):
            rules = Rules(view, change=[("v", "a.x", pick), ("k", "b.y", "least")])
            self.check(rules, store, Change((1, 5), "v", 6), ("a", (1,), (1, 1, 0), (1, number, 0)))
            self.nothing(rules, store, Change((1, 5), "v", 7))
            self.nothing(rules, store, Change((1, 5), "k", 7))
            self.nothing(Rules(view, change=[("v", "b.x", pick)]), store, Change((1, 5), "v", 6))
        lone = store + Edit([("a", (2,), (2, 1, 0), None)])
        self.check(Rules(view, change=[("v", "b.x", "least")]), lone, Change((1, 5), "v", 6),
                   ("b", (1,), (1, 5, 0), (1, 6, 0)))

    def test_totals(self):
        picks = {"least key": (1, 7), "greatest key": (2, 7), "least value": (1, 8), "greatest value": (1, 7)}
        rows = {(shop, code): (shop, code, amount) for shop, code, amount in STORE["stock"]}
        for word, key in picks.items():
            after = (*key, rows[key][2] + 2)
            self.check(Rules(KINDS, total=[("amount", word)]), STORE, Total((3,), "amount", 31),
                       ("stock", key, rows[key], after))

    def test_totals_with_equal_values(self):
        table = Table("t", ["k", "v"], ["k"])
        sums = Sums(Body([table]), [], [("v", "t.v")])
        store = Store([table], {"t": [(1, 5), (2, 3), (3, 5), (4, 3), (5, 4)]})
        for word, row in (("least key", (1, 5)), ("greatest key", (5, 4)), ("least value", (2, 3)),
                          ("greatest value", (1, 5))):
            self.check(Rules(sums, total=[("v", word)]), store, Total((), "v", 27), ("t", row[:1], row, (row[0], row[1] + 7)))

    def test_totals_without_meaning(self):
        shops = Sums(BODY, [("shop", "stock.shop")], [("kind", "goods.kind")])
        for word in ("least key", "greatest value"):
            rules = Rules(shops, total=[("kind", word)])
            self.nothing(rules, STORE, Total((2,), "kind", 4))
            self.check(rules, STORE, Total((1,), "kind", 7), ("goods", (8,), (8, 3), (8, 4)))


class Refused(unittest.TestCase):
    def check(self, rules, write, error, store=STORE):
        with self.assertRaises(type(error)) as caught:
            put(rules, store, write)
        self.assertEqual(vars(caught.exception), vars(error))

    def test_before_the_rules(self):
        every = Rules(FEW, drop=TABLES, add=TABLES, change=[("kind", "goods.kind", "least")])
        for rules in (Rules(FEW), every):
            self.check(rules, Clear((1, 7, 20, 3)), WrongKind("clear"))
            self.check(rules, Total((1,), "none", 3), WrongKind("total"))
            for write in (Drop((1,)), Add((1,)), Change((1,), "none", 0)):
                self.check(rules, write, WrongLength((1,)))
            self.check(rules, Drop((1, 7, 21, 3)), NotShown((1, 7, 21, 3)))
            self.check(rules, Change((1, 7, 21, 3), "none", 0), NotShown((1, 7, 21, 3)))
            self.check(rules, Change((1, 7, 20, 3), "none", 0), NoName("none"))
            self.check(rules, Change((1, 7, 20, 3), "amount", 0), OutOfRegion("amount", 0))
            self.check(rules, Add((1, 7, 0, 3)), OutOfRegion("amount", 0))
            self.check(rules, Change((1, 7, 20, 3), "amount", 20), NoDifference(20))
            self.check(rules, Add((1, 7, 20, 3)), AlreadyShown((1, 7, 20, 3)))
        self.check(Rules(PAIRS), Change((1, 7), "shop", 2), AlreadyShown((2, 7)))
        for rules in (Rules(KINDS), Rules(KINDS, drop=TABLES, total=[("amount", "least key")])):
            self.check(rules, Drop((3,)), WrongKind("drop"))
            self.check(rules, Clear(()), WrongLength(()))
            self.check(rules, Clear((4,)), NotShown((4,)))
            self.check(rules, Total((3,), "count", 29), NoName("count"))
            self.check(rules, Total((3,), "amount", 29), NoDifference(29))

    def test_no_rule(self):
        rules = Rules(LOTS, change=[("shop", "stock.amount", "least")])
        for write in (Drop((1, 7, 20, 3)), Add((9, 9, 9, 9)), Change((1, 7, 20, 3), "kind", 6)):
            self.check(rules, write, NoRule(write.kind))
        for write in (Clear((3,)), Total((3,), "amount", 30)):
            self.check(Rules(KINDS), write, NoRule(write.kind))
            if write.kind == "clear":
                self.check(Rules(KINDS, total=[("amount", "least key")]), write, NoRule("clear"))

    def test_store_without_the_tables(self):
        rules = Rules(LOTS, drop=TABLES)
        self.check(rules, Drop((1, 7, 20, 3)), NoTable("goods"), Store([STOCK]))
        self.check(rules, Drop((1, 7, 20, 3)), Unlike("goods"), Store([STOCK, Table("goods", ["a"], ["a"])]))


class AgainstPlainSearches(unittest.TestCase):
    def draw(self, dice, number):
        """A view with at most three hidden classes, or sums, its rules, a store and a write."""
        kinds = (lambda: dice.choice(linked_views()), lambda: dice.choice(linked_sums()),
                 lambda: sparse_view(dice), lambda: some_shown_view(dice, 4))
        shown = kinds[number % 4]()
        while is_view(shown) and len(hidden_of(shown)) > 3:
            shown = kinds[number % 4]()
        store = some_store(dice, shown.body.tables, 3, dice.choice([-1, 0]))
        for _ in range(5):
            if not shown.rows(store):
                store = some_store(dice, shown.body.tables, 4, 0)
        write = write_by(shown, store, some_edit(dice, store)) if number % 3 else None
        return (some_rules(dice, shown), store, write or some_write(dice, shown, store))

    def check_point_51(self, rules, store, write, edit):
        shown = rules.view
        self.assertTrue(is_meaning(shown, store, write, edit))
        tables = rules.drop_tables if write.kind in ("drop", "clear") else rules.add_tables
        for name, _, before, after in edit.changes:
            if write.kind in ("drop", "clear", "add"):
                self.assertIn(name, tables)
            elif write.kind == "change":
                cell = [cell for told_name, cell, _ in rules.change_picks if told_name == write.name][0]
                columns = [f"{name}.{column}" for column, old, new in
                           zip(store.table_of(name).columns, before, after) if old != new]
                self.assertEqual(columns, [cell])
        for size in range(len(edit.changes)):
            for some in itertools.combinations(edit.changes, size):
                self.assertFalse(meaning_of(shown, store, write, Edit(some)))

    def test_all_kinds(self):
        dice = dice_of(171)
        seen = {}
        for number in range(3000):
            rules, store, write = self.draw(dice, number)
            expected = put_of(rules, store, write)
            found = told(lambda: put(rules, store, write))
            self.assertEqual(found, expected)
            kind = expected[0] if isinstance(expected, tuple) else len(expected)
            seen[write.kind, kind] = seen.get((write.kind, kind), 0) + 1
            if isinstance(found, Edit):
                self.check_point_51(rules, store, write, found)
            else:
                self.assertEqual(refusal_of(rules.view, store, write) is None, found[0] in ("NoRule", "NoMeaning"))
        for kind in ("drop", "clear", "add", "change", "total"):
            for word in ("NoMeaning", "NoRule", 1):
                self.assertGreater(seen.get((kind, word), 0), 0, (kind, word, seen))
        for kind, size in (("add", 2), ("add", 3), ("clear", 2)):
            self.assertGreater(seen.get((kind, size), 0), 5, seen)


if __name__ == "__main__":
    unittest.main()
