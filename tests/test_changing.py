"""Points 2, 24, 26, 32 and 33 and the section shownwrites/changing.py."""

import itertools
import unittest

from shownwrites.bodies import Body
from shownwrites.changing import changes, totals
from shownwrites.errors import KeyCell, NoColumn, NotShown, NoTable, Unlike
from shownwrites.refusals import (AlreadyShown, NoDifference, NoName, OutOfRegion, WrongKind,
                                  WrongLength)
from shownwrites.stores import Store
from shownwrites.sums import Sums
from shownwrites.tables import Table
from shownwrites.views import View
from shownwrites.writes import Change, Total, is_meaning
from tests.reference import (cell_edits, columns_of, dice_of, linked_sums, linked_views, plain_tables,
                             refusal_of, some_shown_view, some_store)

BIG = 10 ** 40
STOCK = Table("stock", ("shop", "code", "amount"), ("shop", "code"))
GOODS = Table("goods", ("code", "kind"), ("code",))
BODY = Body([STOCK, GOODS], [("stock.code", "goods.code")])
BOUND = Body([STOCK, GOODS], [("stock.code", "goods.code")], [("stock.amount", ">", 0), ("goods.kind", "=", 3)])
STORE = Store([STOCK, GOODS], {"stock": [(1, 7, 20), (1, 8, 4), (2, 7, 5), (4, 6, 1)],
                               "goods": [(7, 3), (8, 3), (9, 6)]})
SHOWN = [("shop", "stock.shop"), ("code", "stock.code"), ("amount", "stock.amount"), ("kind", "goods.kind")]
LOTS = View(BODY, SHOWN)
FEW = View(BOUND, SHOWN)
KINDS = Sums(BODY, [("kind", "goods.kind")], [("amount", "stock.amount")])
CELLS = ["stock.amount", "goods.kind"]


def told(edits):
    """The only change of each of the edits."""
    return [edit.changes[0] for edit in edits if len(edit.changes) == 1]


def free_cells(body):
    """The columns of the body outside the keys."""
    keys = [f"{table.name}.{column}" for table in body.tables for column in table.key]
    return [column for column in columns_of(body.tables) if column not in keys]


class Changes(unittest.TestCase):
    def test_own_cell(self):
        row = (1, 8, 4, 3)
        for cells in (CELLS, ["stock.amount"], CELLS * 2, tuple(CELLS[::-1])):
            found = changes(LOTS, STORE, row, "amount", -BIG, cells)
            self.assertEqual(told(found), [("stock", (1, 8), (1, 8, 4), (1, 8, -BIG))])
        for cells in ([], ["goods.kind"]):
            self.assertEqual(changes(LOTS, STORE, row, "amount", -BIG, cells), [])
        self.assertEqual(told(changes(LOTS, STORE, row, "kind", 4, CELLS)), [("goods", (8,), (8, 3), (8, 4))])
        self.assertIs(type(changes(LOTS, STORE, row, "kind", 4, CELLS)), list)

    def test_row_in_several_derivations(self):
        self.assertEqual(changes(LOTS, STORE, (1, 7, 20, 3), "kind", 6, CELLS), [])

    def test_key_is_shown(self):
        for name, value in (("shop", 3), ("code", 9), ("code", 6)):
            self.assertEqual(changes(LOTS, STORE, (1, 8, 4, 3), name, value, CELLS), [])

    def test_hidden_link(self):
        tables = plain_tables("ab")
        view = View(Body(tables, [("a.x", "b.k")]), [("k", "a.k"), ("v", "b.x")])
        store = Store(tables, {"a": [(1, 1, 0), (2, 1, 0), (3, 5, 0)],
                               "b": [(1, 5, 0), (2, 6, 0), (3, 6, 1), (4, 5, 1), (5, 7, 0)]})
        both = ["a.x", "b.x"]
        self.assertEqual(told(changes(view, store, (1, 5), "v", 6, both)), [
            ("a", (1,), (1, 1, 0), (1, 2, 0)), ("a", (1,), (1, 1, 0), (1, 3, 0))])
        self.assertEqual(changes(view, store, (1, 5), "v", 6, ["b.x", "a.y", "b.y"]), [])
        self.assertEqual(told(changes(view, store, (3, 7), "v", 5, both)), [
            ("a", (3,), (3, 5, 0), (3, 1, 0)), ("a", (3,), (3, 5, 0), (3, 4, 0)),
            ("b", (5,), (5, 7, 0), (5, 5, 0))])
        self.assertEqual(told(changes(view, store, (3, 7), "v", 9, both)), [("b", (5,), (5, 7, 0), (5, 9, 0))])

    def test_key_is_changed_through_the_other_end_of_a_link(self):
        # The shown class has a key column and another one: the other one can be set.
        tables = plain_tables("ab")
        view = View(Body(tables, [("a.x", "b.k")]), [("k", "a.k"), ("l", "b.k")])
        store = Store(tables, {"a": [(1, 1, 0)], "b": [(1, 5, 0), (2, 6, 0)]})
        self.assertEqual(told(changes(view, store, (1, 1), "l", 2, ["a.x"])), [("a", (1,), (1, 1, 0), (1, 2, 0))])
        self.assertEqual(changes(view, store, (1, 1), "l", 3, ["a.x"]), [])

    def test_derivations_that_show_the_same_as_before(self):
        tables = plain_tables("abc")
        body = Body(tables, [("a.x", "b.k"), ("b.x", "c.k")])
        view = View(body, [("k", "a.k"), ("y", "a.y"), ("v", "c.x")])
        rows = {"a": [(1, 1, 0)], "b": [(1, 1, 0)], "c": [(1, 5, 0), (2, 6, 0)]}
        change = ("b", (1,), (1, 1, 0), (1, 2, 0))
        self.assertEqual(told(changes(view, Store(tables, rows), (1, 0, 5), "v", 6, ["b.x"])), [change])
        store = Store(tables, {**rows, "a": [(1, 1, 0), (2, 1, 0)]})
        self.assertEqual(changes(view, store, (1, 0, 5), "v", 6, ["b.x"]), [])
        # Further derivations of the edited row that show the same with either number.
        ab = plain_tables("ab")
        body = Body(ab, [("a.x", "b.x")])
        view = View(body, [("k", "a.k"), ("l", "b.k")])
        store = Store(ab, {"a": [(1, 1, 0), (2, 2, 0)], "b": [(1, 1, 0)]})
        self.assertEqual(told(changes(view, store, (1, 1), "k", 2, ["b.x", "a.x"])), [
            ("b", (1,), (1, 1, 0), (1, 2, 0))])

    def test_order_of_edits_of_one_row(self):
        a, c, d = plain_tables("acd")
        b = Table("b", ["p", "q", "v"], ["p", "q"])
        view = View(Body([a, c, d, b], [("a.x", "d.k"), ("d.x", "b.q"), ("a.y", "c.k"), ("c.x", "b.p")]),
                    [("k", "a.k"), ("v", "b.v")])
        store = Store([a, b, c, d], {"a": [(1, 1, 1)], "c": [(1, 1, 0), (0, 2, 0), (2, 2, 0)],
                                     "d": [(1, 1, 0), (2, 2, 0), (0, 2, 0)],
                                     "b": [(1, 1, 5), (1, 2, 6), (2, 1, 6)]})
        found = changes(view, store, (1, 5), "v", 6, ["a.y", "a.x", "b.v"])
        self.assertEqual([edit.changes[0][::3] for edit in found], [
            ("a", (1, 0, 1)), ("a", (1, 1, 0)), ("a", (1, 1, 2)), ("a", (1, 2, 1)), ("b", (1, 1, 6))])

    def test_cells_of_other_shown_or_fixed_classes(self):
        tables = plain_tables("ab")
        body = Body(tables, [("a.x", "b.x"), ("a.y", "b.y")], [("a.y", "=", 0)])
        view = View(body, [("k", "a.k"), ("l", "b.k"), ("x", "a.x")])
        store = Store(tables, {"a": [(1, 1, 0), (2, 2, 0)], "b": [(1, 1, 0), (2, 2, 1), (3, 2, 0)]})
        for name, value in (("k", 2), ("l", 3), ("l", 2), ("x", 2)):
            write = Change((1, 1, 1), name, value)
            found = changes(view, store, (1, 1, 1), name, value, ["a.x", "a.y", "b.x", "b.y"])
            self.assertEqual(found, cell_edits(view, store, write, ["a.x", "a.y", "b.x", "b.y"], range(-1, 5)))

    def check(self, dice, view, store, cells, sizes):
        for row in view(store)[:2]:
            choices = list(itertools.product(view.names, range(-1, 4)))
            for name, value in dice.sample(choices, min(4, len(choices))):
                write = Change(row, name, value)
                if refusal_of(view, store, write) is None:
                    found = changes(view, store, row, name, value, cells)
                    self.assertEqual(found, cell_edits(view, store, write, cells, range(-1, 4)))
                    sizes[len(found)] = sizes.get(len(found), 0) + 1
                    for edit in found:
                        self.assertTrue(is_meaning(view, store, write, edit))

    def test_against_all_cells_of_all_rows(self):
        dice = dice_of(111)
        sizes = {}
        views = linked_views()
        for number in range(480):
            view = views[number % len(views)]
            cells = free_cells(view.body)
            if dice.random() < 0.2:
                cells = dice.sample(cells, dice.randint(0, len(cells)))
            store = some_store(dice, view.body.tables, 4, dice.choice([-1, 0]))
            self.check(dice, view, store, cells, sizes)
        for size in (0, 1, 2):
            self.assertGreater(sizes.get(size, 0), 5, sizes)
        for _ in range(80):
            view = some_shown_view(dice)
            if isinstance(view, View):
                store = some_store(dice, view.body.tables, 3)
                self.check(dice, view, store, free_cells(view.body), sizes)

    def test_many_rows(self):
        people = Table("people", ["id", "city"], ["id"])
        orders = Table("orders", ["id", "person"], ["id"])
        many = 2000
        store = Store([people, orders], {"people": [(n, n % 10) for n in range(many)],
                                         "orders": [(n, n // 2) for n in range(many)]})
        view = View(Body([orders, people], [("orders.person", "people.id")]),
                    [("order", "orders.id"), ("city", "people.city")])
        found = changes(view, store, (7, 3), "city", 4, ["orders.person", "people.city"])
        self.assertEqual([edit["orders", (7,)][1] for edit in found], [(7, n) for n in range(4, many, 10)])


class ChangesRefused(unittest.TestCase):
    def check(self, error, view, row, name, value, cells=(), store=STORE):
        with self.assertRaises(type(error)) as caught:
            changes(view, store, row, name, value, cells)
        self.assertEqual(vars(caught.exception), vars(error))

    def test_cells_come_first(self):
        for row, name, value in (((1, 8, 4, 3), "amount", 7), ((1,), "amount", 7), ((1, 8, 4, 3), "none", 7)):
            for column in ("", "stock", "amount", "stock.kind", "none.amount", "stock.amount."):
                for cells in ([column], ["goods.kind", column, "goods.code"], (column, "none")):
                    self.check(NoColumn(column), LOTS, row, name, value, cells)
            for column in ("stock.shop", "stock.code", "goods.code"):
                for cells in ([column], ["goods.kind", column, "none"], (column, "stock.shop")):
                    self.check(KeyCell(column), LOTS, row, name, value, cells)

    def test_refusals(self):
        row = (1, 8, 4, 3)
        for cells in ((), CELLS):
            self.check(WrongLength((1, 8)), LOTS, (1, 8), "none", 4, cells)
            self.check(NotShown((1, 8, 5, 3)), LOTS, (1, 8, 5, 3), "none", 5, cells)
            self.check(NoName("none"), LOTS, row, "none", 4, cells)
            self.check(OutOfRegion("amount", 0), FEW, row, "amount", 0, cells)
            self.check(OutOfRegion("kind", 6), FEW, row, "kind", 6, cells)
            self.check(NoDifference(4), LOTS, row, "amount", 4, cells)
            self.check(NoDifference(3), FEW, row, "kind", 3, cells)
        pairs = View(BODY, SHOWN[:2])
        self.check(AlreadyShown((2, 7)), pairs, (1, 7), "shop", 2, CELLS)
        with self.assertRaises(WrongKind) as caught:
            changes(KINDS, STORE, (3,), "amount", 5, CELLS)
        self.assertEqual(caught.exception.kind, "change")

    def test_store_without_the_tables(self):
        self.check(NoTable("goods"), LOTS, (1, 8, 4, 3), "amount", 7, CELLS, Store([STOCK]))
        other = Table("goods", ["code"], ["code"])
        self.check(Unlike("goods"), LOTS, (1, 8, 4, 3), "amount", 7, CELLS, Store([STOCK, other]))


class Totals(unittest.TestCase):
    def test_each_row_takes_the_difference(self):
        self.assertEqual(told(totals(KINDS, STORE, (3,), "amount", 30)), [
            ("stock", (1, 7), (1, 7, 20), (1, 7, 21)), ("stock", (1, 8), (1, 8, 4), (1, 8, 5)),
            ("stock", (2, 7), (2, 7, 5), (2, 7, 6))])
        self.assertEqual(told(totals(KINDS, STORE, (3,), "amount", -BIG))[1],
                         ("stock", (1, 8), (1, 8, 4), (1, 8, -BIG - 25)))
        self.assertIs(type(totals(KINDS, STORE, (3,), "amount", 30)), list)

    def test_rows_in_several_derivations_of_the_group(self):
        sums = Sums(BODY, [], [("kind", "goods.kind")])
        self.assertEqual(sums(STORE), [((), 3, (9,))])
        seven, eight = ("goods", (7,), (7, 3)), ("goods", (8,), (8, 3))
        for value, expected in ((10, [(*eight, (8, 4))]), (11, [(*seven, (7, 4)), (*eight, (8, 5))]),
                                (8, [(*eight, (8, 2))]), (7, [(*seven, (7, 2)), (*eight, (8, 1))]),
                                (0, [(*eight, (8, -6))]), (-1, [(*seven, (7, -2)), (*eight, (8, -7))])):
            self.assertEqual(told(totals(sums, STORE, (), "kind", value)), expected)

    def test_rows_of_several_groups(self):
        sums = Sums(BODY, [("shop", "stock.shop")], [("kind", "goods.kind")])
        self.assertEqual(told(totals(sums, STORE, (1,), "kind", 8)), [("goods", (8,), (8, 3), (8, 5))])
        self.assertEqual(totals(sums, STORE, (2,), "kind", 8), [])

    def test_regions(self):
        sums = Sums(BOUND, [], [("amount", "stock.amount")])
        self.assertEqual(told(totals(sums, STORE, (), "amount", 25)), [
            ("stock", (1, 7), (1, 7, 20), (1, 7, 16)), ("stock", (2, 7), (2, 7, 5), (2, 7, 1))])
        self.assertEqual(told(totals(sums, STORE, (), "amount", 10)), [
            ("stock", (1, 7), (1, 7, 20), (1, 7, 1))])
        for value in (9, 0, -5, -BIG):
            self.assertEqual(totals(sums, STORE, (), "amount", value), [])
        body = Body([STOCK], [], [("stock.amount", "!=", 6)])
        sums = Sums(body, [], [("amount", "stock.amount")])
        self.assertEqual([change[1] for change in told(totals(sums, STORE, (), "amount", 31))],
                         [(1, 7), (1, 8), (4, 6)])

    def test_rows_outside_the_region(self):
        body = Body([STOCK], [], [("stock.amount", ">", 1)])
        sums = Sums(body, [], [("amount", "stock.amount")])
        self.assertEqual([change[1] for change in told(totals(sums, STORE, (), "amount", 30))],
                         [(1, 7), (1, 8), (2, 7)])

    def test_against_all_cells_of_all_rows(self):
        dice = dice_of(112)
        sizes = {}
        for number in range(400):
            sums = dice.choice(linked_sums()) if number % 4 else some_shown_view(dice)
            if isinstance(sums, View):
                continue
            store = some_store(dice, sums.body.tables, 4, dice.choice([-1, 0, 1]))
            for group, _, _ in sums(store)[:2]:
                for name, head in zip(sums.total_names, sums.total_heads):
                    value = dice.randint(-4, 6)
                    write = Total(group, name, value)
                    if refusal_of(sums, store, write) is None:
                        found = totals(sums, store, group, name, value)
                        self.assertEqual(found, cell_edits(sums, store, write, [head], range(-14, 15)))
                        sizes[len(found)] = sizes.get(len(found), 0) + 1
        for size in (0, 1, 2, 3):
            self.assertGreater(sizes.get(size, 0), 3, sizes)

    def test_refusals(self):
        for group, name, value, error in (
                ((), "none", 29, WrongLength(())), ((3, 3), "amount", 29, WrongLength((3, 3))),
                ((6,), "none", 29, NotShown((6,))), ((6,), "amount", 0, NotShown((6,))),
                ((3,), "kind", 29, NoName("kind")), ((3,), "count", 3, NoName("count")),
                ((3,), "amount", 29, NoDifference(29))):
            with self.assertRaises(type(error)) as caught:
                totals(KINDS, STORE, group, name, value)
            self.assertEqual(vars(caught.exception), vars(error))
        with self.assertRaises(WrongKind) as caught:
            totals(LOTS, STORE, (1, 8, 4, 3), "amount", 5)
        self.assertEqual(caught.exception.kind, "total")

    def test_many_rows(self):
        table = Table("t", ["k", "g", "v"], ["k"])
        store = Store([table], {"t": [(n, n % 2, n) for n in range(4000)]})
        sums = Sums(Body([table]), [("g", "t.g")], [("v", "t.v")])
        self.assertEqual(len(totals(sums, store, (1,), "v", 0)), 2000)


class Lists(unittest.TestCase):
    def test_lists_stay_and_belong_to_the_caller(self):
        cells = ["stock.amount", "goods.kind", "stock.amount"]
        found = changes(LOTS, STORE, (1, 8, 4, 3), "amount", 7, cells)
        self.assertEqual(cells, ["stock.amount", "goods.kind", "stock.amount"])
        expected = list(found)
        found.clear()
        self.assertEqual(changes(LOTS, STORE, (1, 8, 4, 3), "amount", 7, cells), expected)
        found = totals(KINDS, STORE, (3,), "amount", 30)
        expected = list(found)
        found.clear()
        self.assertEqual(totals(KINDS, STORE, (3,), "amount", 30), expected)


if __name__ == "__main__":
    unittest.main()
