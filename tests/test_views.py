"""Points 2, 3 and 19 and the section shownwrites/views.py."""

import itertools
import unittest

from shownwrites.bodies import Body
from shownwrites.closures import split
from shownwrites.errors import (BadName, DuplicateName, NoColumn, NotKeyed, NothingShown, NoTable,
                                NotShown, ShownTwice, Unlike)
from shownwrites.stores import Store
from shownwrites.tables import Table
from shownwrites.views import View
from tests.reference import (derivations_of, dice_of, shown_by_columns, some_body, some_shown,
                             some_store, value_at)

BIG = 10 ** 4100
ORDERS = Table("orders", ["id", "person", "item"], ["id"])
PEOPLE = Table("people", ["city", "id"], ["id"])
BODY = Body([ORDERS, PEOPLE], [("orders.person", "people.id")])
SHOWN = [("city", "people.city"), ("order", "orders.id"), ("what", "orders.item")]
STORE = Store([ORDERS, PEOPLE], {"orders": [(10, 1, 5), (9, 2, 6), (8, 1, 7), (7, 3, 1)],
                                 "people": [(4, 1), (3, 2)]})
OTHER = Store([ORDERS, PEOPLE], {"orders": [(1, 2, 3), (2, 1, -3)], "people": [(BIG, 1), (-BIG, 2)]})


class Rows(unittest.TestCase):
    def test_names_and_heads(self):
        view = View(BODY, SHOWN)
        self.assertIs(view.body, BODY)
        self.assertEqual(view.names, ("city", "order", "what"))
        self.assertEqual(view.heads, ("people.city", "orders.id", "orders.item"))
        for kept in (view.names, view.heads):
            self.assertIs(type(kept), tuple)

    def test_heads_of_linked_columns(self):
        view = View(BODY, (("p", "people.id"), ("o", "orders.id")))
        self.assertEqual(view.heads, ("orders.person", "orders.id"))
        self.assertEqual(view(STORE), [(1, 8), (1, 10), (2, 9)])

    def test_rows_of_two_stores_in_turn(self):
        view = View(BODY, SHOWN)
        for _ in range(2):
            self.assertEqual(view.rows(STORE), [(3, 9, 6), (4, 8, 7), (4, 10, 5)])
            self.assertEqual(view(OTHER), [(-BIG, 1, 3), (BIG, 2, -3)])
            self.assertEqual(view(STORE), [(3, 9, 6), (4, 8, 7), (4, 10, 5)])
            self.assertEqual(view.rows(OTHER), [(-BIG, 1, 3), (BIG, 2, -3)])
            self.assertEqual(view(Store([ORDERS, PEOPLE])), [])

    def test_further_tables_of_the_store(self):
        store = Store([Table("more", ["k"], ["k"]), PEOPLE], {"people": [(1, 2)], "more": [(7,)]})
        self.assertEqual(View(Body([PEOPLE]), [("p", "people.id")])(store), [(2,)])

    def test_against_the_definition(self):
        dice = dice_of(61)
        full = 0
        for _ in range(200):
            body = some_body(dice, 4)
            shown = some_shown(dice, body)
            view = View(body, shown)
            columns = [column for _, column in shown]
            self.assertEqual(view.names, tuple(name for name, _ in shown))
            self.assertEqual(view.heads, tuple(body.head(column) for column in columns))
            for store in (some_store(dice, body.tables), some_store(dice, body.tables)):
                rows = view.rows(store)
                self.assertEqual(rows, shown_by_columns(body, store, columns))
                self.assertEqual(view(store), rows)
                self.assertIs(type(rows), list)
                self.assertEqual(len(rows), len(derivations_of(body, store)))
                full += len(rows) > 1
        self.assertGreater(full, 60)

    def test_faults_of_the_store(self):
        view = View(BODY, SHOWN)
        for call in (view.rows, view, lambda store: view.origin(store, (1, 2, 3))):
            with self.assertRaises(NoTable) as caught:
                call(Store([ORDERS]))
            self.assertEqual(caught.exception.name, "people")
            with self.assertRaises(Unlike) as caught:
                call(Store([PEOPLE, Table("orders", ["id", "item", "person"], ["id"])]))
            self.assertEqual(caught.exception.name, "orders")


class Origins(unittest.TestCase):
    def check_none(self, view, store, row):
        with self.assertRaises(NotShown) as caught:
            view.origin(store, row)
        self.assertEqual(caught.exception.row, row)

    def test_shown_of(self):
        view = View(BODY, SHOWN)
        self.assertEqual(view.shown_of(((10, 1, 5), (4, 1))), (4, 10, 5))
        self.assertIs(type(view.shown_of(((10, 1, 5), (4, 1)))), tuple)

    def test_origin(self):
        view = View(BODY, SHOWN)
        for _ in range(2):
            self.assertEqual(view.origin(STORE, (4, 10, 5)), ((10, 1, 5), (4, 1)))
            self.assertEqual(view.origin(OTHER, (BIG, 2, -3)), ((2, 1, -3), (BIG, 1)))
            self.check_none(view, OTHER, (4, 10, 5))
            self.check_none(view, STORE, (BIG, 2, -3))

    def test_not_shown(self):
        view = View(BODY, SHOWN)
        # The last one has only numbers that are shown, but in no row together.
        for row in ((), (4,), (4, 10), (4, 10, 5, 0), (4, 10, 5, 4), (4, 10, 6), (3, 10, 5), (3, 8, 7)):
            self.check_none(view, STORE, row)

    def test_values_outside_the_region(self):
        body = Body([PEOPLE], [], [("people.city", "=", 3)])
        store = Store([PEOPLE], {"people": [(3, 1), (4, 2)]})
        for shown in ([("p", "people.id"), ("c", "people.city")],):
            view = View(body, shown)
            self.assertEqual(view(store), [(1, 3)])
            self.assertEqual(view.origin(store, (1, 3)), ((3, 1),))
            self.check_none(view, store, (2, 4))
            self.check_none(view, store, (2, 3))

    def test_against_the_definition(self):
        dice = dice_of(62)
        for _ in range(100):
            body = some_body(dice, 4)
            shown = some_shown(dice, body)
            view = View(body, shown)
            store = some_store(dice, body.tables)
            origins = {}
            for rows in derivations_of(body, store):
                row = tuple(value_at(body, rows, column) for _, column in shown)
                self.assertEqual(view.shown_of(rows), row)
                self.assertEqual(view.origin(store, row), rows)
                origins[row] = rows
            for row in itertools.islice(itertools.product((-1, 0, 1), repeat=len(shown)), 50):
                if row not in origins:
                    self.check_none(view, store, row)


class Faults(unittest.TestCase):
    def check(self, kind, field, value, shown, body=BODY):
        for pairs in (shown, tuple(shown)):
            with self.assertRaises(kind) as caught:
                View(body, pairs)
            self.assertEqual(getattr(caught.exception, field), value)

    def test_nothing_shown(self):
        for shown in ([], ()):
            for body in (BODY, Body([PEOPLE], [], [("people.id", "=", 1)])):
                with self.assertRaises(NothingShown):
                    View(body, shown)

    def test_names(self):
        for name in ("", "A", "1a", "_a", "a b", "a.b", "aB", "a" * 21, "caf\u00e9", "a\n"):
            self.check(BadName, "name", name, [(name, "orders.id")])
        view = View(BODY, [("count", "orders.id"), ("a_9" + "a" * 17, "orders.item")])
        self.assertEqual(view.names, ("count", "a_9" + "a" * 17))

    def test_one_fault_at_a_time(self):
        self.check(DuplicateName, "name", "a", [("a", "orders.id"), ("a", "orders.item")])
        for column in ("", "orders", "orders.name", "id", "orders.id.", "count"):
            self.check(NoColumn, "column", column, [("a", column)])
        self.check(ShownTwice, "column", "orders.id", [("a", "orders.id"), ("b", "orders.id")])
        self.check(ShownTwice, "column", "people.id",
                   [("a", "orders.person"), ("b", "orders.id"), ("c", "people.id")])
        self.check(ShownTwice, "column", "orders.person", [("a", "people.id"), ("b", "orders.person")])

    def test_fixed_classes_are_shown_once(self):
        body = Body([ORDERS, PEOPLE], [("orders.person", "people.id")], [("people.id", "=", 1)])
        self.check(ShownTwice, "column", "orders.person",
                   [("o", "orders.id"), ("a", "people.id"), ("b", "orders.person")], body)
        self.check(ShownTwice, "column", "people.id",
                   [("o", "orders.id"), ("a", "people.id"), ("b", "people.id")], body)
        view = View(body, [("o", "orders.id"), ("a", "people.id")])
        self.assertEqual(view(STORE), [(8, 1), (10, 1)])

    def test_order_within_a_pair(self):
        start = [("a", "orders.id")]
        self.check(BadName, "name", "?", [*start, ("?", "none")])
        self.check(BadName, "name", "?", [*start, ("?", "orders.id")])
        self.check(DuplicateName, "name", "a", [*start, ("a", "none")])
        self.check(DuplicateName, "name", "a", [*start, ("a", "orders.id")])
        self.check(NoColumn, "column", "none", [*start, ("b", "none")])

    def test_pair_by_pair(self):
        faults = [(BadName, "name", "?", ("?", "orders.item")), (DuplicateName, "name", "a",
                  ("a", "orders.item")), (NoColumn, "column", "x", ("x", "x")),
                  (ShownTwice, "column", "orders.id", ("y", "orders.id"))]
        for first, second in itertools.permutations(faults, 2):
            pairs = [("a", "orders.id"), first[3], ("b", "people.city"), second[3]]
            self.check(first[0], first[1], first[2], pairs)

    def test_not_keyed_comes_last(self):
        start = [("c", "people.city")]
        self.check(BadName, "name", "?", [*start, ("?", "orders.item")])
        self.check(DuplicateName, "name", "c", [*start, ("c", "orders.item")])
        self.check(NoColumn, "column", "x", [*start, ("d", "x")])
        self.check(ShownTwice, "column", "people.city", [*start, ("d", "people.city")])

    def test_not_keyed(self):
        for columns in (["people.city"], ["orders.person"], ["orders.item", "people.id"]):
            with self.assertRaises(NotKeyed) as caught:
                View(BODY, [(f"n{at}", column) for at, column in enumerate(columns)])
            found, expected = caught.exception.split, split(BODY, columns)
            self.assertEqual(found.store, expected.store)
            self.assertEqual((found.first, found.second), (expected.first, expected.second))

    def test_keyed_by_fixed_columns(self):
        body = Body([PEOPLE, ORDERS], [], [("people.id", "=", 2)])
        view = View(body, [("o", "orders.id")])
        self.assertEqual(view(STORE), [(7,), (8,), (9,), (10,)])
        with self.assertRaises(NotKeyed):
            View(body, [("c", "people.city")])

    def test_split_of_random_bodies(self):
        dice = dice_of(63)
        refused = 0
        for _ in range(100):
            body = some_body(dice, 4)
            columns = [dice.choice(members) for members in body.classes]
            columns = dice.sample(columns, dice.randint(1, len(columns)))
            pairs = [(f"n{at}", column) for at, column in enumerate(columns)]
            if split(body, columns) is None:
                View(body, pairs)
                continue
            with self.assertRaises(NotKeyed) as caught:
                View(body, pairs)
            parted = caught.exception.split
            self.assertEqual(derivations_of(body, parted.store).count(parted.first), 1)
            self.assertNotEqual(parted.first, parted.second)
            for column in columns:
                self.assertEqual(value_at(body, parted.first, column),
                                 value_at(body, parted.second, column))
            refused += 1
        self.assertGreater(refused, 20)


class Lists(unittest.TestCase):
    def test_a_passed_list_may_change_afterwards(self):
        shown = list(SHOWN)
        view = View(BODY, shown)
        self.assertEqual(shown, SHOWN)
        shown.clear()
        self.assertEqual(view.names, ("city", "order", "what"))
        self.assertEqual(view(STORE), [(3, 9, 6), (4, 8, 7), (4, 10, 5)])

    def test_returned_lists_belong_to_the_caller(self):
        view = View(BODY, SHOWN)
        for call in (view, view.rows):
            rows = call(STORE)
            rows[0] = None
            rows.append(None)
            self.assertEqual(call(STORE), [(3, 9, 6), (4, 8, 7), (4, 10, 5)])
        self.assertEqual(STORE["people"], [(4, 1), (3, 2)])

    def test_own_methods(self):
        for name in ("__init__", "__call__", "rows", "shown_of", "origin"):
            self.assertIn(name, vars(View))


if __name__ == "__main__":
    unittest.main()
