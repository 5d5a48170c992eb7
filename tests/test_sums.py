"""Points 2, 3, 20, 21 and 22 and the section shownwrites/sums.py."""

import itertools
import unittest

from shownwrites.bodies import Body
from shownwrites.errors import NoColumn, NoTable, NotShown, Unlike
from shownwrites.refusals import InvalidSums, NotTotal
from shownwrites.stores import Store
from shownwrites.sums import Sums
from shownwrites.tables import Table
from tests.reference import (columns_of, derivations_of, dice_of, some_body, some_store, some_sums,
                             sums_of, totalled_of, value_at)

BIG = 10 ** 4100
LOTS = Table("lots", ["id", "code", "amount", "price"], ["id"])
GOODS = Table("goods", ["code", "kind", "weight"], ["code"])
BODY = Body([LOTS, GOODS], [("lots.code", "goods.code")], [("lots.amount", ">=", 0)])
STORE = Store([LOTS, GOODS], {
    "lots": [(1, 7, 20, 5), (2, 7, 4, -6), (3, 8, 0, 1), (4, 9, 3, 3), (5, 6, 1, 1), (6, 8, -1, 9)],
    "goods": [(7, 3, 10), (8, 3, 100), (9, -2, 1000)]})
OTHER = Store([LOTS, GOODS], {"lots": [(1, 1, BIG, -BIG), (2, 1, 1, -BIG)], "goods": [(1, BIG, 5)]})


class Rows(unittest.TestCase):
    def test_attributes(self):
        sums = Sums(BODY, [("k", "goods.kind"), ("c", "goods.code")],
                    [("p", "lots.price"), ("a", "lots.amount"), ("w", "goods.weight")])
        self.assertIs(sums.body, BODY)
        self.assertEqual(sums.by_names, ("k", "c"))
        self.assertEqual(sums.by_heads, ("goods.kind", "lots.code"))
        self.assertEqual(sums.total_names, ("p", "a", "w"))
        self.assertEqual(sums.total_heads, ("lots.price", "lots.amount", "goods.weight"))
        for kept in (sums.by_names, sums.by_heads, sums.total_names, sums.total_heads):
            self.assertIs(type(kept), tuple)

    def test_counts_and_totals(self):
        sums = Sums(BODY, [("k", "goods.kind")], [("a", "lots.amount"), ("w", "goods.weight")])
        # The row of goods with code 7 stands in two derivations: its weight counts twice.
        self.assertEqual(sums(STORE), [((-2,), 1, (3, 1000)), ((3,), 3, (24, 120))])

    def test_two_stores_in_turn(self):
        sums = Sums(BODY, [("k", "goods.kind")], [("p", "lots.price")])
        for _ in range(2):
            self.assertEqual(sums.rows(STORE), [((-2,), 1, (3,)), ((3,), 3, (0,))])
            self.assertEqual(sums(OTHER), [((BIG,), 2, (-2 * BIG,))])
            self.assertEqual(sums(STORE), [((-2,), 1, (3,)), ((3,), 3, (0,))])

    def test_groups_are_ascending(self):
        table = Table("t", ["k", "x", "y"], ["k"])
        store = Store([table], {"t": [(1, 10, 1), (2, 9, 5), (3, -1, 0), (4, 9, 4), (5, 100, -7)]})
        by_two = Sums(Body([table]), [("x", "t.x"), ("y", "t.y")], [])
        self.assertEqual(by_two(store), [((-1, 0), 1, ()), ((9, 4), 1, ()), ((9, 5), 1, ()),
                                         ((10, 1), 1, ()), ((100, -7), 1, ())])
        turned = Sums(Body([table]), [("y", "t.y"), ("x", "t.x")], [])
        self.assertEqual([row[0] for row in turned(store)],
                         [(-7, 100), (0, -1), (1, 10), (4, 9), (5, 9)])

    def test_no_by_columns(self):
        sums = Sums(BODY, [], [("a", "lots.amount")])
        self.assertEqual(sums(STORE), [((), 4, (27,))])
        self.assertEqual(sums(Store([LOTS, GOODS])), [])

    def test_no_totals(self):
        self.assertEqual(Sums(BODY, (("k", "goods.kind"),), ())(STORE), [((-2,), 1, ()), ((3,), 3, ())])
        self.assertEqual(Sums(BODY, (), [])(STORE), [((), 4, ())])
        self.assertEqual(Sums(BODY, [], ())(Store([GOODS, LOTS])), [])

    def test_fixed_by_column(self):
        body = Body([LOTS, GOODS], [("lots.code", "goods.code")], [("goods.kind", "=", 3)])
        sums = Sums(body, [("k", "goods.kind"), ("i", "lots.id")], [])
        self.assertEqual([row[0] for row in sums(STORE)], [(3, 1), (3, 2), (3, 3), (3, 6)])

    def test_body_that_is_keyed_by_nothing(self):
        sums = Sums(Body([GOODS, LOTS]), [("w", "goods.weight")], [("k", "goods.kind")])
        self.assertEqual(sums(STORE), [((10,), 6, (18,)), ((100,), 6, (18,)), ((1000,), 6, (-12,))])

    def test_against_the_definition(self):
        dice = dice_of(71)
        full = 0
        for _ in range(200):
            body = some_body(dice, 4)
            by, totals = some_sums(dice, body)
            sums = Sums(body, by, totals)
            for store in (some_store(dice, body.tables), some_store(dice, body.tables)):
                expected = sums_of(body, store, [c for _, c in by], [c for _, c in totals])
                self.assertEqual(sums.rows(store), expected)
                self.assertEqual(sums(store), expected)
                full += any(row[1] > 1 and row[2] for row in expected)
        self.assertGreater(full, 20)

    def test_faults_of_the_store(self):
        sums = Sums(BODY, [("k", "goods.kind")], [])
        for call in (sums, sums.rows, lambda store: sums.origins(store, (3,))):
            with self.assertRaises(NoTable) as caught:
                call(Store([LOTS]))
            self.assertEqual(caught.exception.name, "goods")
            with self.assertRaises(Unlike) as caught:
                call(Store([Table("lots", ["id"], ["id"]), GOODS]))
            self.assertEqual(caught.exception.name, "lots")


class Origins(unittest.TestCase):
    def check_none(self, sums, store, group):
        with self.assertRaises(NotShown) as caught:
            sums.origins(store, group)
        self.assertEqual(caught.exception.row, group)

    def test_origins(self):
        sums = Sums(BODY, [("k", "goods.kind")], [("a", "lots.amount")])
        for _ in range(2):
            self.assertEqual(sums.origins(STORE, (3,)), [
                ((1, 7, 20, 5), (7, 3, 10)), ((2, 7, 4, -6), (7, 3, 10)), ((3, 8, 0, 1), (8, 3, 100))])
            self.assertEqual(sums.origins(STORE, (-2,)), [((4, 9, 3, 3), (9, -2, 1000))])
            self.assertEqual(len(sums.origins(OTHER, (BIG,))), 2)
            self.check_none(sums, OTHER, (3,))

    def test_not_shown(self):
        sums = Sums(BODY, [("k", "goods.kind"), ("c", "lots.code")], [])
        for group in ((), (3,), (3, 7, 0), (3, 7, 7), (7, 3), (3, 9), (-2, 7), (0, 6)):
            self.check_none(sums, STORE, group)
        for group in ((3, 7), (3, 8), (-2, 9)):
            self.assertEqual(sums.origins(STORE, group)[0][1][:2], (group[1], group[0]))

    def test_group_of_all(self):
        sums = Sums(BODY, [], [])
        self.assertEqual(len(sums.origins(STORE, ())), 4)
        self.check_none(sums, STORE, (1,))
        self.check_none(sums, Store([LOTS, GOODS]), ())

    def test_against_the_definition(self):
        dice = dice_of(72)
        for _ in range(150):
            body = some_body(dice, 4)
            by, totals = some_sums(dice, body)
            sums = Sums(body, by, totals)
            store = some_store(dice, body.tables)
            groups = {}
            for rows in derivations_of(body, store):
                group = tuple(value_at(body, rows, column) for _, column in by)
                groups.setdefault(group, []).append(rows)
            for group, rows in groups.items():
                self.assertEqual(sums.origins(store, group), rows)
            for group in itertools.islice(itertools.product((-1, 0, 1), repeat=len(by)), 40):
                if group not in groups:
                    self.check_none(sums, store, group)


class Faults(unittest.TestCase):
    def check(self, kind, value, by, totals, body=BODY):
        field = "name" if kind is InvalidSums else "column"
        for lists in ((by, totals), (tuple(by), tuple(totals))):
            with self.assertRaises(kind) as caught:
                Sums(body, *lists)
            self.assertEqual(getattr(caught.exception, field), value)

    def test_names(self):
        for name in ("", "A", "1a", "_a", "a b", "a.b", "a" * 21, "a\n", "count"):
            self.check(InvalidSums, name, [(name, "goods.kind")], [])
            self.check(InvalidSums, name, [], [(name, "lots.amount")])
        self.check(InvalidSums, "a", [("a", "goods.kind"), ("a", "lots.id")], [])
        self.check(InvalidSums, "a", [], [("a", "lots.amount"), ("a", "lots.price")])
        self.check(InvalidSums, "a", [("a", "goods.kind")], [("a", "lots.price")])
        sums = Sums(BODY, [("counts", "goods.kind")], [("a" * 20, "lots.price")])
        self.assertEqual((sums.by_names, sums.total_names), (("counts",), ("a" * 20,)))

    def test_columns(self):
        for column in ("", "lots", "amount", "lots.weight", "lots.amount.", "none.id", "count"):
            self.check(NoColumn, column, [("a", column)], [])
            self.check(NoColumn, column, [], [("a", column)])

    def test_by_columns_of_one_class(self):
        self.check(InvalidSums, "b", [("a", "lots.code"), ("b", "goods.code")], [])
        self.check(InvalidSums, "b", [("a", "goods.code"), ("b", "goods.code")], [])
        fixed = Body([LOTS, GOODS], [("lots.code", "goods.code")], [("lots.code", "=", 1)])
        self.check(InvalidSums, "b", [("a", "goods.code"), ("b", "lots.code")], [], fixed)
        lone = Body([LOTS], [], [("lots.price", "=", 1)])
        self.check(InvalidSums, "b", [("a", "lots.price"), ("b", "lots.price")], [], lone)

    def test_columns_that_may_not_be_totalled(self):
        for column in ("lots.id", "goods.code", "lots.code"):
            self.check(NotTotal, column, [], [("a", column)])
        self.check(NotTotal, "lots.price", [("b", "lots.price")], [("a", "lots.price")])
        self.check(NotTotal, "lots.price", [], [("b", "lots.price"), ("a", "lots.price")])
        fixed = Body([LOTS, GOODS], [], [("lots.price", "=", 1)])
        self.check(NotTotal, "lots.price", [], [("a", "lots.price")], fixed)
        linked = Body([LOTS, GOODS], [("lots.price", "goods.weight")])
        self.check(NotTotal, "lots.price", [], [("a", "lots.price")], linked)
        self.check(NotTotal, "goods.weight", [], [("a", "goods.weight")], linked)

    def test_which_columns_may_be_totalled(self):
        dice = dice_of(73)
        for _ in range(100):
            body = some_body(dice, 4)
            good = totalled_of(body)
            for column in columns_of(body.tables):
                if column in good:
                    self.assertEqual(Sums(body, [], [("a", column)]).total_heads, (column,))
                    self.check(NotTotal, column, [("b", column)], [("a", column)], body)
                    self.check(NotTotal, column, [], [("b", column), ("a", column)], body)
                else:
                    self.check(NotTotal, column, [], [("a", column)], body)

    def test_order_within_a_pair(self):
        self.check(InvalidSums, "count", [("count", "none")], [])
        self.check(InvalidSums, "a", [("a", "lots.id"), ("a", "none")], [])
        self.check(InvalidSums, "?", [("a", "lots.id"), ("?", "lots.id")], [])
        self.check(NoColumn, "none", [("a", "lots.id"), ("b", "none")], [])
        self.check(InvalidSums, "count", [], [("count", "none")])
        self.check(InvalidSums, "a", [], [("a", "lots.price"), ("a", "lots.id")])
        self.check(InvalidSums, "a", [("a", "lots.price")], [("a", "lots.price")])
        self.check(NoColumn, "none", [("a", "lots.id")], [("b", "none")])

    def test_pair_by_pair(self):
        by = [(InvalidSums, "count", ("count", "goods.kind")), (NoColumn, "x", ("x", "x")),
              (InvalidSums, "y", ("y", "lots.id"))]
        totals = [(InvalidSums, "a", ("a", "lots.price")), (NoColumn, "z", ("z", "z")),
                  (NotTotal, "goods.code", ("g", "goods.code")), (InvalidSums, "?", ("?", "lots.price"))]
        start = [("a", "lots.id")]
        for first, second in itertools.permutations(by, 2):
            self.check(first[0], first[1], [*start, first[2], second[2]], [])
        for first, second in itertools.permutations(totals, 2):
            self.check(first[0], first[1], start, [("u", "lots.amount"), first[2], second[2]])
        for first, second in itertools.product(by, totals):
            self.check(first[0], first[1], [*start, first[2]], [second[2]])


class Lists(unittest.TestCase):
    def test_passed_lists_may_change_afterwards(self):
        by, totals = [("k", "goods.kind")], [("a", "lots.amount")]
        sums = Sums(BODY, by, totals)
        self.assertEqual((by, totals), ([("k", "goods.kind")], [("a", "lots.amount")]))
        by.append(("i", "lots.id"))
        totals.clear()
        self.assertEqual((sums.by_names, sums.total_names), (("k",), ("a",)))
        self.assertEqual(sums(STORE), [((-2,), 1, (3,)), ((3,), 3, (24,))])

    def test_returned_lists_belong_to_the_caller(self):
        sums = Sums(BODY, [("k", "goods.kind")], [("a", "lots.amount")])
        for call in (sums, sums.rows, lambda store: sums.origins(store, (3,))):
            rows = call(STORE)
            expected = list(rows)
            rows[0] = None
            rows.append(None)
            self.assertEqual(call(STORE), expected)

    def test_own_methods(self):
        for name in ("__init__", "__call__", "rows", "origins"):
            self.assertIn(name, vars(Sums))


if __name__ == "__main__":
    unittest.main()
