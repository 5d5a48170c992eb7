"""Points 2, 26, 27, 28 and 29 and the section shownwrites/dropping.py."""

import itertools
import unittest

from shownwrites.bodies import Body
from shownwrites.dropping import clears, drops
from shownwrites.errors import NotShown, NoTable, Unlike
from shownwrites.stores import Store
from shownwrites.sums import Sums
from shownwrites.tables import Table
from shownwrites.views import View
from shownwrites.writes import Clear, Drop, is_meaning
from tests.reference import (dice_of, least_deletions, linked_sums, linked_views, plain_tables,
                             some_shown_view, some_store)

BIG = 10 ** 40
PEOPLE = Table("people", ["id", "city"], ["id"])
ORDERS = Table("orders", ["id", "person"], ["id"])
BODY = Body([ORDERS, PEOPLE], [("orders.person", "people.id")])
VIEW = View(BODY, [("order", "orders.id"), ("city", "people.city")])
CITIES = Sums(BODY, [("city", "people.city")], [])
STORE = Store([PEOPLE, ORDERS], {"people": [(1, 10), (2, 20), (3, 20), (BIG, -BIG)],
                                 "orders": [(5, 1), (6, 1), (7, 2), (8, 3), (-BIG, BIG), (9, 9)]})
BOTH = ["people", "orders"]


def told(edits):
    """The changes of the edits."""
    return [edit.changes for edit in edits]


class Drops(unittest.TestCase):
    def test_one_several_and_none(self):
        order, person = ("orders", (7,), (7, 2), None), ("people", (2,), (2, 20), None)
        self.assertEqual(told(drops(VIEW, STORE, (7, 20), BOTH)), [(order,), (person,)])
        self.assertEqual(told(drops(VIEW, STORE, (7, 20), ["orders"])), [(order,)])
        self.assertEqual(told(drops(VIEW, STORE, (7, 20), ["people"])), [(person,)])
        self.assertEqual(drops(VIEW, STORE, (7, 20), []), [])
        self.assertEqual(told(drops(VIEW, STORE, (5, 10), BOTH)), [(("orders", (5,), (5, 1), None),)])
        self.assertEqual(drops(VIEW, STORE, (5, 10), ["people"]), [])
        self.assertEqual(told(drops(VIEW, STORE, (-BIG, -BIG), BOTH)), [
            (("orders", (-BIG,), (-BIG, BIG), None),), (("people", (BIG,), (BIG, -BIG), None),)])

    def test_order_is_by_names_and_not_by_the_body(self):
        tables = plain_tables("cab")
        view = View(Body(tables), [("p", "c.k"), ("q", "a.k"), ("r", "b.k")])
        store = Store(tables, {name: [(9, 0, 0)] for name in "abc"})
        self.assertEqual(told(drops(view, store, (9, 9, 9), "cba")),
                         [((name, (9,), (9, 0, 0), None),) for name in "abc"])

    def test_tables_in_any_order_and_twice(self):
        expected = drops(VIEW, STORE, (7, 20), BOTH)
        for names in (("orders", "people"), ["orders", "people", "orders"], ("people",) * 3 + ("orders",)):
            self.assertEqual(drops(VIEW, STORE, (7, 20), names), expected)
        self.assertEqual(len(expected), 2)

    def test_kinds_of_values(self):
        found = drops(VIEW, STORE, (7, 20), BOTH)
        self.assertIs(type(found), list)
        for edit in found:
            self.assertTrue(is_meaning(VIEW, STORE, Drop((7, 20)), edit))
            self.assertEqual((edit.deletes, len(edit)), (1, 1))

    def test_other_tables_do_not_count(self):
        other = Table("other", ["k"], ["k"])
        store = Store([PEOPLE, ORDERS, other], {name: STORE[name] for name in BOTH})
        with self.assertRaises(NoTable) as caught:
            drops(VIEW, store, (7, 20), ["other"])
        self.assertEqual(caught.exception.name, "other")

    def test_no_table_before_not_shown(self):
        for name in ("", "city", "orders.id", "People"):
            for row in ((7, 20), (7, 21), ()):
                for names in ([name], ["people", name, "none"], (name, "?")):
                    with self.assertRaises(NoTable) as caught:
                        drops(VIEW, STORE, row, names)
                    self.assertEqual(caught.exception.name, name)

    def test_not_shown(self):
        for row in ((), (7,), (7, 20, 0), (7, 10), (9, 20), (BIG, BIG)):
            for names in (BOTH, []):
                with self.assertRaises(NotShown) as caught:
                    drops(VIEW, STORE, row, names)
                self.assertEqual(caught.exception.row, row)

    def test_store_without_the_tables(self):
        with self.assertRaises(NoTable):
            drops(VIEW, Store([PEOPLE]), (7, 20), BOTH)
        with self.assertRaises(Unlike):
            drops(VIEW, Store([PEOPLE, Table("orders", ["id"], ["id"])]), (7, 20), BOTH)

    def check(self, view, store, names):
        sizes = []
        for row in view(store)[:3]:
            found = drops(view, store, row, names)
            self.assertEqual(found, least_deletions(view, store, Drop(row), names))
            sizes.append(len(found))
        return sizes

    def test_against_all_sets_of_rows(self):
        dice = dice_of(91)
        sizes = []
        for _ in range(250):
            view = dice.choice(linked_views())
            store = some_store(dice, view.body.tables, 3, dice.choice([0, 1]))
            if len(store) < 8:
                many = len(view.body.names)
                sizes += self.check(view, store, dice.sample(view.body.names, dice.choice([1, many, many])))
        for _ in range(150):
            view = some_shown_view(dice)
            if isinstance(view, View):
                store = some_store(dice, view.body.tables, 3)
                if len(store) < 8:
                    sizes += self.check(view, store, view.body.names)
        for size in (0, 1, 2, 3):
            self.assertGreater(sizes.count(size), 3, size)

    def test_rows_in_very_many_derivations(self):
        tables = plain_tables("abcde")
        store = Store(tables, {name: [(n, n, n) for n in range(100)] for name in "abcde"})
        view = View(Body(tables), [(name, f"{name}.k") for name in "abcde"])
        self.assertEqual(drops(view, store, (1, 2, 3, 4, 5), "abcde"), [])


class Clears(unittest.TestCase):
    def test_one_several_and_none(self):
        orders = (("orders", (7,), (7, 2), None), ("orders", (8,), (8, 3), None))
        people = (("people", (2,), (2, 20), None), ("people", (3,), (3, 20), None))
        self.assertEqual(told(clears(CITIES, STORE, (20,), BOTH)), [
            orders, (orders[0], people[1]), (orders[1], people[0]), people])
        self.assertEqual(told(clears(CITIES, STORE, (20,), ["orders"])), [orders])
        self.assertEqual(told(clears(CITIES, STORE, (20,), ["people"])), [people])
        self.assertEqual(clears(CITIES, STORE, (20,), []), [])
        # One person instead of two orders.
        self.assertEqual(told(clears(CITIES, STORE, (10,), BOTH)), [(("people", (1,), (1, 10), None),)])
        self.assertEqual(told(clears(CITIES, STORE, (10,), ["orders"])), [
            (("orders", (5,), (5, 1), None), ("orders", (6,), (6, 1), None))])

    def test_rows_that_other_groups_need(self):
        sums = Sums(BODY, [("order", "orders.id")], [])
        self.assertEqual(clears(sums, STORE, (5,), ["people"]), [])
        self.assertEqual(told(clears(sums, STORE, (5,), BOTH)), [(("orders", (5,), (5, 1), None),)])
        self.assertEqual(len(clears(sums, STORE, (7,), BOTH)), 2)

    def test_without_by_columns(self):
        sums = Sums(BODY, [], [])
        found = clears(sums, STORE, (), BOTH)
        self.assertEqual({len(edit) for edit in found}, {4})
        # The first person has two orders; of the others one of two rows goes.
        self.assertEqual(len(found), 8)
        for edit in found:
            self.assertEqual(sums(STORE + edit), [])
        self.assertEqual(clears(sums, STORE, (), []), [])
        for group in ((5,), (5, 5)):
            with self.assertRaises(NotShown) as caught:
                clears(sums, STORE, group, BOTH)
            self.assertEqual(caught.exception.row, group)
        with self.assertRaises(NotShown):
            clears(sums, Store([PEOPLE, ORDERS]), (), BOTH)

    def test_tables_in_any_order_and_twice(self):
        expected = clears(CITIES, STORE, (20,), BOTH)
        for names in (("orders", "people"), ["orders", "people", "orders"], ("people",) * 3 + ("orders",)):
            self.assertEqual(clears(CITIES, STORE, (20,), names), expected)
        self.assertIs(type(expected), list)

    def test_no_table_before_not_shown(self):
        for name in ("", "city", "orders.id", "People"):
            for group in ((20,), (21,), ()):
                for names in ([name], ["people", name, "none"], (name, "?")):
                    with self.assertRaises(NoTable) as caught:
                        clears(CITIES, STORE, group, names)
                    self.assertEqual(caught.exception.name, name)

    def test_not_shown(self):
        for group in ((), (9,), (20, 20), (7, 20), (BIG,)):
            for names in (BOTH, []):
                with self.assertRaises(NotShown) as caught:
                    clears(CITIES, STORE, group, names)
                self.assertEqual(caught.exception.row, group)

    def test_order_of_equal_size(self):
        tables = plain_tables("ba")
        sums = Sums(Body(tables, [("a.x", "b.k")]), [("v", "b.x")], [])
        store = Store(tables, {"a": [(10, 1, 0), (9, 2, 0)], "b": [(1, 5, 0), (2, 5, 0)]})
        expected = [(("a", (9,)), ("a", (10,))), (("a", (9,)), ("b", (1,))),
                    (("a", (10,)), ("b", (2,))), (("b", (1,)), ("b", (2,)))]
        self.assertEqual([tuple(change[:2] for change in edit.changes)
                          for edit in clears(sums, store, (5,), "ab")], expected)

    def check(self, sums, store, names):
        sizes = []
        for group, _, _ in sums(store)[:3]:
            found = clears(sums, store, group, names)
            self.assertEqual(found, least_deletions(sums, store, Clear(group), names))
            sizes.append((len(found), len(found[0]) if found else None))
        return sizes

    def test_against_all_sets_of_rows(self):
        dice = dice_of(92)
        sizes = []
        for _ in range(500):
            sums = dice.choice(linked_sums())
            store = some_store(dice, sums.body.tables, 4, dice.choice([0, 1]))
            if len(store) < 8:
                sizes += self.check(sums, store, sums.body.names)
                sizes += self.check(sums, store, dice.sample(sums.body.names, 1))
        for _ in range(100):
            sums = some_shown_view(dice)
            if isinstance(sums, Sums):
                store = some_store(dice, sums.body.tables, 3)
                if len(store) < 8:
                    sizes += self.check(sums, store, sums.body.names)
        for size in ((0, None), (1, 1), (1, 2), (2, 1), (2, 2), (3, 1), (4, 2), (1, 3)):
            self.assertGreater(sizes.count(size), 2, size)

    def test_rows_that_are_shared(self):
        names = "pqr"
        tables = [Table("m", names, names), *[Table(name, ["k"], ["k"]) for name in names]]
        body = Body(tables, [(f"m.{name}", f"{name}.k") for name in names])
        dice = dice_of(93)
        for _ in range(10):
            rows = dice.sample(list(itertools.product(range(4), repeat=3)), 15)
            store = Store(tables, {"m": rows, **{name: [(n,) for n in range(4)] for name in names}})
            found = clears(Sums(body, [], []), store, (), names)
            places = [(name, n) for name in names for n in range(4)]
            for size in range(13):
                expected = [some for some in itertools.combinations(places, size)
                            if all(any((name, row[at]) in some for at, name in enumerate(names)) for row in rows)]
                if expected:
                    break
            self.assertEqual([tuple((change[0], change[1][0]) for change in edit.changes) for edit in found],
                             expected)

    def test_many_rows(self):
        rows = {"orders": [(n, n // 50) for n in range(1000)], "people": [(n, 7) for n in range(20)]}
        store = Store([PEOPLE, ORDERS], rows)
        self.assertEqual([len(edit) for edit in clears(CITIES, store, (7,), BOTH)], [20])
        self.assertEqual([len(edit) for edit in clears(CITIES, store, (7,), ["orders"])], [1000])


class Lists(unittest.TestCase):
    def test_lists_stay_and_belong_to_the_caller(self):
        for call, row in ((lambda row, names: drops(VIEW, STORE, row, names), (7, 20)),
                          (lambda row, names: clears(CITIES, STORE, row, names), (20,))):
            names = ["people", "orders", "people"]
            found = call(row, names)
            self.assertEqual(names, ["people", "orders", "people"])
            expected = list(found)
            found.clear()
            self.assertEqual(call(row, names), expected)
        self.assertEqual(len(STORE), 10)


if __name__ == "__main__":
    unittest.main()
