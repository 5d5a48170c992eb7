"""Points 2, 24, 26, 27, 30 and 31 and the section shownwrites/adding.py."""

import unittest

from shownwrites.adding import Adding, adds
from shownwrites.bodies import Body
from shownwrites.edits import Edit
from shownwrites.errors import NoTable, Unlike
from shownwrites.refusals import AlreadyShown, OutOfRegion, WrongKind, WrongLength
from shownwrites.stores import Store
from shownwrites.sums import Sums
from shownwrites.tables import Table
from shownwrites.views import View
from shownwrites.writes import Add, is_meaning, wanted
from tests.reference import (dice_of, least_insertions, linked_views, numbers_standing, plain_tables,
                             refusal_of, some_shown_view, some_store)

BIG = 10 ** 40
STOCK = Table("stock", ("shop", "code", "amount"), ("shop", "code"))
GOODS = Table("goods", ("code", "kind"), ("code",))
BODY = Body([STOCK, GOODS], [("stock.code", "goods.code")])
STORE = Store([STOCK, GOODS], {"stock": [(1, 7, 20), (1, 8, 4), (2, 7, 5), (4, 6, 1)],
                               "goods": [(7, 3), (8, 3), (9, 6)]})
SHOWN = [("shop", "stock.shop"), ("code", "stock.code"), ("amount", "stock.amount"), ("kind", "goods.kind")]
LOTS = View(BODY, SHOWN)
PAIRS = View(BODY, SHOWN[:2])
KINDS = Sums(BODY, [("kind", "goods.kind")], [])
BOTH = ["stock", "goods"]


def told(adding):
    """The changes of the told edits."""
    return [edit.changes for edit in adding.told]


class Adds(unittest.TestCase):
    def check_found(self, view, store, row, found):
        """The edits lead to just the one row more, and back."""
        self.assertIs(type(found), Adding)
        self.assertIs(type(found.told), list)
        self.assertIs(type(found.endless), bool)
        if found.count is None:
            self.assertEqual((found.told, found.endless, found.sample), ([], False, None))
            return
        self.assertEqual(found.sample == found.told[0] if found.told else found.endless, True)
        for edit in [*found.told, found.sample]:
            self.assertEqual((len(edit), edit.inserts), (found.count, found.count))
            after = store + edit
            self.assertEqual(view(after), sorted([*view(store), row]))
            self.assertEqual(after + -edit, store)
            self.assertTrue(is_meaning(view, store, Add(row), edit))

    def add(self, view, row, names, store=STORE):
        found = adds(view, store, row, names)
        self.check_found(view, store, row, found)
        return found

    def test_all_shown(self):
        found = self.add(LOTS, (2, 9, 1, 6), ["stock"])
        self.assertEqual((found.count, told(found), found.endless),
                         (1, [(("stock", (2, 9), None, (2, 9, 1)),)], False))
        found = self.add(LOTS, (4, 6, 1, -BIG), BOTH)
        self.assertEqual((found.count, told(found)), (1, [(("goods", (6,), None, (6, -BIG)),)]))
        found = self.add(LOTS, (5, 5, 5, 5), BOTH)
        self.assertEqual((found.count, told(found), found.endless), (
            2, [(("goods", (5,), None, (5, 5)), ("stock", (5, 5), None, (5, 5, 5)))], False))

    def test_tables_that_are_not_permitted(self):
        self.assertIsNone(self.add(LOTS, (2, 9, 1, 6), ["goods"]).count)
        self.assertIsNone(self.add(LOTS, (5, 5, 5, 5), ["goods"]).count)
        self.assertIsNone(self.add(LOTS, (5, 5, 5, 5), ["stock"]).count)
        for row in ((2, 9, 1, 6), (4, 6, 1, 3), (5, 5, 5, 5)):
            self.assertIsNone(self.add(LOTS, row, []).count)

    def test_rows_in_the_way(self):
        for row in ((2, 9, 1, 3), (1, 7, 21, 3), (4, 6, 2, 3), (1, 8, 4, 4)):
            self.assertIsNone(self.add(LOTS, row, BOTH).count)
        # The row in the way is part of no shown row here, and of one in the last case above.
        self.assertIsNone(self.add(LOTS, (4, 6, 0, 1), BOTH).count)

    def test_hidden_column(self):
        found = self.add(PAIRS, (2, 8), BOTH)
        self.assertEqual([edit["stock", (2, 8)][1] for edit in found.told],
                         [(2, 8, 1), (2, 8, 4), (2, 8, 5), (2, 8, 20)])
        self.assertEqual((found.count, found.endless), (1, True))
        found = self.add(PAIRS, (4, 6), BOTH)
        self.assertEqual(told(found), [(("goods", (6,), None, (6, 3)),), (("goods", (6,), None, (6, 6)),)])
        self.assertEqual((found.count, found.endless), (1, True))
        found = self.add(PAIRS, (5, 5), BOTH)
        self.assertEqual((found.count, len(found.told), found.endless), (2, 8, True))

    def test_nothing_stands(self):
        store = Store([STOCK, GOODS])
        found = self.add(PAIRS, (1, 2), BOTH, store)
        self.assertEqual((found.count, found.told, found.endless), (2, [], True))
        found = self.add(LOTS, (1, 2, 3, 4), BOTH, store)
        self.assertEqual((found.count, len(found.told), found.endless), (2, 1, False))
        self.assertIsNone(self.add(LOTS, (1, 2, 3, 4), ["stock"], store).count)

    def test_values_of_rows_in_no_derivation(self):
        # The amount 1 stands in a row without goods; the kind 6 in goods without a row.
        found = self.add(PAIRS, (7, 9), ["stock"])
        self.assertIn((("stock", (7, 9), None, (7, 9, 1)),), told(found))
        found = self.add(PAIRS, (4, 6), ["goods"])
        self.assertIn((("goods", (6,), None, (6, 6)),), told(found))

    def test_regions(self):
        body = Body([STOCK, GOODS], [("stock.code", "goods.code")],
                    [("stock.amount", ">", 4), ("stock.amount", "!=", 20), ("goods.kind", "=", 3)])
        view = View(body, SHOWN[:2])
        found = self.add(view, (2, 8), BOTH)
        self.assertEqual(told(found), [(("stock", (2, 8), None, (2, 8, 5)),)])
        self.assertTrue(found.endless)
        # The fixed class is not hidden: the kind of new goods is 3.
        found = self.add(view, (1, 5), BOTH)
        self.assertEqual(told(found), [(("goods", (5,), None, (5, 3)), ("stock", (1, 5), None, (1, 5, 5)))])
        self.assertIsNone(self.add(view, (1, 8), BOTH).count)

    def test_hidden_link(self):
        tables = plain_tables("ab")
        body = Body(tables, [("a.x", "b.k")])
        view = View(body, [("k", "a.k"), ("y", "a.y"), ("v", "b.x")])
        store = Store(tables, {"a": [(1, 1, 0), (2, 9, 0)], "b": [(1, 5, 0), (2, 5, 7), (3, 6, 0)]})
        found = self.add(view, (3, 0, 5), "ab", store)
        self.assertEqual(told(found), [(("a", (3,), None, (3, 1, 0)),), (("a", (3,), None, (3, 2, 0)),)])
        self.assertFalse(found.endless)
        found = self.add(view, (2, 0, 8), "ab", store)
        self.assertEqual(told(found), [(("b", (9,), None, (9, 8, 0)),), (("b", (9,), None, (9, 8, 7)),)])
        self.assertTrue(found.endless)
        found = self.add(view, (3, 0, 8), "ab", store)
        # The number 9 stands in the class of the link, but a row has it already.
        self.assertEqual((found.count, found.told, found.endless), (2, [], True))
        self.assertIsNone(self.add(view, (3, 0, 8), "a", store).count)

    def test_side_effects(self):
        tables = plain_tables("ab")
        body = Body(tables, [("a.x", "b.x")])
        view = View(body, [("k", "a.k"), ("l", "b.k")])
        store = Store(tables, {"a": [(1, 5, 0), (2, 5, 0), (3, 6, 0), (4, 8, 0)], "b": [(1, 7, 0)]})
        self.assertIsNone(self.add(view, (1, 2), "ab", store).count)
        found = self.add(view, (3, 2), "ab", store)
        self.assertEqual(told(found), [(("b", (2,), None, (2, 6, 0)),)])
        found = self.add(view, (9, 2), "ab", store)
        self.assertEqual((found.count, found.told, found.endless), (2, [], True))
        found = self.add(view, (9, 1), "ab", store)
        self.assertEqual((found.count, told(found)), (1, [(("a", (9,), None, (9, 7, 0)),)]))

    def test_least_before_told(self):
        tables = plain_tables("ab")
        view = View(Body(tables), [("k", "a.k"), ("l", "b.k")])
        store = Store(tables, {"a": [(1, 5, 6)], "b": [(1, 7, 8), (2, 7, 8)]})
        found = self.add(view, (2, 1), "ab", store + Edit([("b", (2,), (2, 7, 8), None)]))
        self.assertEqual(told(found), [(("a", (2,), None, (2, 5, 6)),)])
        # With two rows in b each further row in a is shown twice.
        self.assertIsNone(self.add(view, (2, 1), "ab", store).count)

    def test_told_edits_ascend(self):
        tables = plain_tables("ba")
        body = Body(tables, [("a.x", "b.x")], [("a.y", "<", 9)])
        view = View(body, [("k", "a.k"), ("l", "b.k")])
        # The rows of a with 5 and 6 are in no derivation, whatever b holds.
        store = Store(tables, {"a": [(1, 6, 9), (2, 5, 9), (3, 7, 2), (4, 7, 1)], "b": [(1, 8, 4), (2, 8, 3)]})
        found = self.add(view, (10, 10), "ab", store)
        self.assertEqual(told(found), [
            (("a", (10,), None, (10, x, y)), ("b", (10,), None, (10, x, z)))
            for x in (5, 6) for y in (1, 2) for z in (3, 4)])
        self.assertTrue(found.endless)

    def test_tables_in_any_order_and_twice(self):
        expected = adds(PAIRS, STORE, (5, 5), BOTH)
        for names in (BOTH[::-1], ("stock", "goods", "stock"), ("goods",) * 3 + ("stock",)):
            found = adds(PAIRS, STORE, (5, 5), names)
            self.assertEqual((found.count, found.told, found.endless, found.sample),
                             (expected.count, expected.told, expected.endless, expected.sample))


class Against(unittest.TestCase):
    """Against a plain search over all numbers of the hidden classes."""

    check_found = Adds.check_found

    def check(self, dice, view, store, most, kinds):
        hidden = [head for head in view.body.open_heads if head not in view.heads]
        many = 1
        for head in hidden:
            many *= len(numbers_standing(view.body, store, head)) + 1
        row = tuple(dice.randint(-1, 3) for _ in view.heads)
        if many > most or refusal_of(view, store, Add(row)) is not None:
            return
        names = dice.sample(view.body.names, dice.choice([len(view.body.names), dice.randint(0, 2)])
                            if len(view.body.names) > 1 else 1)
        found = adds(view, store, row, names)
        count, some, more = least_insertions(view, store, row, names)
        self.assertEqual((found.count, found.told, found.endless), (count, some, len(more) > 0))
        self.check_found(view, store, row, found)
        kind = (count, min(len(some), 2), len(more) > 0)
        kinds[kind] = kinds.get(kind, 0) + 1

    def test_views_with_hidden_classes(self):
        dice = dice_of(101)
        kinds = {}
        views = linked_views()
        for number in range(900):
            view = views[number % len(views)]
            store = some_store(dice, view.body.tables, dice.choice([2, 3, 4]), dice.choice([-1, 0, 1]))
            self.check(dice, view, store, 300, kinds)
        for kind in [(None, 0, False), (1, 0, True), (1, 1, False), (1, 1, True), (1, 2, True),
                     (2, 0, True), (2, 1, True), (2, 2, True), (3, 0, True)]:
            self.assertGreater(kinds.get(kind, 0), 3, kinds)

    def test_views_of_any_bodies(self):
        dice = dice_of(102)
        kinds = {}
        for _ in range(500):
            view = some_shown_view(dice, 4)
            if isinstance(view, View):
                for _ in range(3):
                    self.check(dice, view, some_store(dice, view.body.tables, 3), 200, kinds)
        for count in (None, 1, 2, 3):
            self.assertGreater(sum(kinds[kind] for kind in kinds if kind[0] == count), 10, kinds)


class Refused(unittest.TestCase):
    def check(self, error, view, row, names=(), store=STORE):
        with self.assertRaises(type(error)) as caught:
            adds(view, store, row, names)
        self.assertEqual(vars(caught.exception), vars(error))

    def test_no_table_first(self):
        for name in ("", "shop", "stock.shop", "Stock"):
            for row in ((2, 9, 1, 6), (1, 7, 20, 3), (1,)):
                for names in ([name], ["stock", name, "none"], (name, "?")):
                    self.check(NoTable(name), LOTS, row, names)

    def test_refusals(self):
        body = Body([STOCK, GOODS], [("stock.code", "goods.code")],
                    [("stock.amount", ">", 0), ("goods.kind", "=", 3)])
        few = View(body, SHOWN)
        for names in ((), BOTH, ["goods"]):
            for row in ((), (1, 7, 20), (1, 7, 20, 3, 3), (0, 0, 0, 0, 0)):
                self.check(WrongLength(row), LOTS, row, names)
                self.check(WrongLength(row), few, row, names)
            self.check(OutOfRegion("amount", 0), few, (1, 7, 0, 4), names)
            self.check(OutOfRegion("kind", 4), few, (1, 7, 20, 4), names)
            self.check(AlreadyShown((1, 7, 20, 3)), LOTS, (1, 7, 20, 3), names)
            self.check(AlreadyShown((1, 7, 20, 3)), few, (1, 7, 20, 3), names)
            self.check(AlreadyShown((2, 7)), PAIRS, (2, 7), names)

    def test_sums(self):
        with self.assertRaises(WrongKind):
            adds(KINDS, STORE, (3,), BOTH)

    def test_store_without_the_tables(self):
        self.check(NoTable("goods"), LOTS, (2, 9, 1, 6), BOTH, Store([STOCK]))
        other = Table("goods", ["code"], ["code"])
        self.check(Unlike("goods"), LOTS, (2, 9, 1, 6), BOTH, Store([STOCK, other]))


class Long(unittest.TestCase):
    """Ten thousand combinations of numbers in hidden classes."""

    def test_free_columns(self):
        table = plain_tables("a")[0]
        store = Store([table], {"a": [(n, n, -n) for n in range(100)]})
        found = adds(View(Body([table]), [("k", "a.k")]), store, (BIG,), "a")
        self.assertEqual((found.count, len(found.told), found.endless), (1, 10000, True))
        self.assertEqual(found.sample.changes, (("a", (BIG,), None, (BIG, 0, -99)),))

    def test_links(self):
        tables = plain_tables("abc")
        rows = [(n, n % 7, n % 5) for n in range(100)]
        store = Store(tables, {"a": [(1, 1, 1)], "b": rows, "c": rows})
        body = Body(tables, [("a.x", "b.k"), ("a.y", "c.k")], [("b.y", "=", 2), ("c.y", "=", 3)])
        view = View(body, [("k", "a.k"), ("p", "b.x"), ("q", "c.x")])
        found = adds(view, store, (2, 3, 4), "abc")
        self.assertEqual((found.count, found.endless), (1, False))
        self.assertEqual(len(found.told), len([n for n in range(100) if n % 35 == 17]) *
                         len([n for n in range(100) if n % 35 == 18]))

    def test_one_number_for_each_of_many_columns(self):
        table = Table("w", ["k", *[f"c{n}" for n in range(40)]], ["k"])
        store = Store([table], {"w": [(1,) * 41]})
        found = adds(View(Body([table]), [("k", "w.k")]), store, (2,), ["w"])
        self.assertEqual((found.count, len(found.told), found.endless), (1, 1, True))


class Lists(unittest.TestCase):
    def test_lists_stay_and_belong_to_the_caller(self):
        names = ["goods", "stock", "goods"]
        found = adds(PAIRS, STORE, (5, 5), names)
        self.assertEqual(names, ["goods", "stock", "goods"])
        expected = list(found.told)
        found.told.clear()
        self.assertEqual(adds(PAIRS, STORE, (5, 5), names).told, expected)
        self.assertEqual(found.sample, expected[0])

    def test_wanted_rows_of_the_write(self):
        found = adds(LOTS, STORE, (2, 9, 1, 6), BOTH)
        self.assertEqual(LOTS(STORE + found.sample), wanted(LOTS, STORE, Add((2, 9, 1, 6))))


if __name__ == "__main__":
    unittest.main()
