"""Points 2, 34, 35 and 36 and the section shownwrites/exchange.py."""

import itertools
import unittest

from shownwrites.bodies import Body
from shownwrites.errors import NoColumn, NotPossible
from shownwrites.exchange import Inside, exchangeable, inside_case, inside_sets
from shownwrites.tables import Table
from tests.reference import (columns_of, derivations_of, dice_of, is_exchangeable, name_sets, plain_tables,
                             sets_inside, some_body, some_store, tables_inside, value_at)

ORDERS = Table("orders", ["id", "buyer"], ["id"])
BUYERS = Table("buyers", ["id", "city"], ["id"])
BODY = Body([ORDERS, BUYERS], [("orders.buyer", "buyers.id")], [("buyers.id", ">", 0)])
CHAIN = Body(plain_tables("cab"), [("a.x", "b.k"), ("b.x", "c.k")])
UNLINKED = Body(plain_tables("cab"))


def some_columns(dice, body):
    """No column, or up to three, perhaps one twice."""
    columns = columns_of(body.tables)
    return [dice.choice(columns) for _ in range(dice.randint(0, 3))]


class Sets(unittest.TestCase):
    def test_two_tables(self):
        both = ("orders", "buyers")
        self.assertEqual(exchangeable(BODY, ["orders.id"]), [("orders",), both])
        self.assertEqual(exchangeable(BODY, ["buyers.id"]), [both])
        self.assertEqual(exchangeable(BODY, []), [])
        self.assertEqual(inside_sets(BODY, ["orders.id"]), [("orders",), both])
        self.assertEqual(inside_sets(BODY, ["buyers.city"]), [both])
        self.assertEqual(inside_sets(BODY, []), [both])

    def test_order_of_the_body(self):
        self.assertEqual(exchangeable(CHAIN, ["a.k"]), [("a",), ("a", "b"), ("c", "a", "b")])
        self.assertEqual(inside_sets(CHAIN, ["a.k"]), [("a",), ("a", "b"), ("c", "a", "b")])
        self.assertEqual(exchangeable(CHAIN, ["c.y"]), [("c", "a", "b")])
        self.assertEqual(inside_sets(CHAIN, ("c.y",)), [("c", "a", "b")])

    def test_empty_set(self):
        self.assertEqual(exchangeable(UNLINKED, ["a.k", "b.k"]), [("a",), ("b",)])
        self.assertEqual(inside_sets(UNLINKED, ["a.k", "b.k"]), [(), ("a",), ("b",), ("c", "a", "b")])
        self.assertEqual(inside_sets(UNLINKED, ["a.k"]), [("a",), ("c", "a", "b")])
        self.assertEqual(inside_sets(UNLINKED, []), [("c", "a", "b")])
        every = [names for names in name_sets(UNLINKED) if len(names) != 2]
        self.assertEqual(inside_sets(UNLINKED, ["a.k", "b.k", "c.k"]), every)

    def test_fixed_columns(self):
        body = Body([ORDERS, BUYERS], [("orders.buyer", "buyers.id")], [("orders.id", "=", 1)])
        self.assertEqual(exchangeable(body, ["orders.id", "buyers.city"]), [])
        self.assertEqual(inside_sets(body, ["orders.id"]), [("orders", "buyers")])
        body = Body([ORDERS, BUYERS], [("orders.buyer", "buyers.id")], [("buyers.id", "=", 1)])
        self.assertEqual(exchangeable(body, ["orders.id", "buyers.city"]), [("orders",)])

    def test_against_the_definition(self):
        dice = dice_of(121)
        sizes = {}
        for _ in range(300):
            body = some_body(dice, 4)
            columns = some_columns(dice, body)
            expected = [names for names in name_sets(body) if names and is_exchangeable(body, columns, names)]
            self.assertEqual(exchangeable(body, columns), expected)
            sets = inside_sets(body, columns)
            self.assertEqual(sets, sets_inside(body, columns))
            self.assertIn(body.names, sets)
            sizes[len(sets), () in sets] = sizes.get((len(sets), () in sets), 0) + 1
            for names in [*sets, *expected]:
                self.assertIs(type(names), tuple)
        for kind in ((1, False), (2, False), (3, False), (4, True), (5, True)):
            self.assertGreater(sizes.get(kind, 0), 3, sizes)

    def test_six_tables(self):
        body = Body(plain_tables("fbdace"), [("a.x", "b.k"), ("b.x", "c.k"), ("d.x", "c.y")])
        columns = ["a.k", "d.k", "e.y", "f.x"]
        self.assertEqual(inside_sets(body, columns), sets_inside(body, columns))
        free = Body(plain_tables("fbdace"))
        self.assertEqual(len(inside_sets(free, [f"{name}.k" for name in "abcdef"])), 8)

    def test_tables_inside_in_any_store(self):
        dice = dice_of(122)
        found = {}
        for number in range(300):
            body = some_body(dice, 4)
            columns = some_columns(dice, body)
            sets = inside_sets(body, columns)
            store = some_store(dice, body.tables, 4)
            for rows in derivations_of(body, store)[:6]:
                names = tables_inside(body, store, columns, rows)
                self.assertIn(names, sets)
                found[len(names), len(body.names)] = True
        for kind in ((0, 2), (1, 2), (2, 2), (0, 3), (1, 3), (2, 3), (3, 3), (1, 4)):
            self.assertIn(kind, found)


class Cases(unittest.TestCase):
    def check(self, body, columns, names):
        case = inside_case(body, columns, names)
        self.assertIs(type(case), Inside)
        self.assertEqual(case.store.tables, tuple(sorted(body.tables, key=lambda table: table.name)))
        found = derivations_of(body, case.store)
        self.assertIn(case.derivation, found)
        group = [value_at(body, case.derivation, column) for column in columns]
        self.assertEqual([rows for rows in found if [value_at(body, rows, column) for column in columns] == group],
                         [case.derivation])
        self.assertEqual(set(tables_inside(body, case.store, columns, case.derivation)), set(names))

    def test_each_set(self):
        for body, columns in ((BODY, ["orders.id"]), (CHAIN, ["a.k"]), (UNLINKED, ["a.k", "b.k", "c.k"]),
                              (UNLINKED, ["a.k", "a.x"]), (UNLINKED, [])):
            for names in inside_sets(body, columns):
                for given in itertools.permutations(names):
                    self.check(body, columns, given)
                self.check(body, columns, list(names) * 2)

    def test_each_set_of_any_body(self):
        dice = dice_of(123)
        for _ in range(150):
            body = some_body(dice, 4)
            columns = some_columns(dice, body)
            sets = inside_sets(body, columns)
            for names in name_sets(body):
                turned = dice.sample(names, len(names)) + list(names[:1])
                if names in sets:
                    self.check(body, columns, turned)
                else:
                    with self.assertRaises(NotPossible) as caught:
                        inside_case(body, columns, turned)
                    self.assertEqual(caught.exception.names, names)

    def test_not_possible(self):
        for names, told in ((["buyers"], ("buyers",)), ((), ()), (["buyers", "buyers"], ("buyers",))):
            with self.assertRaises(NotPossible) as caught:
                inside_case(BODY, ["orders.id"], names)
            self.assertEqual(caught.exception.names, told)
            self.assertIs(type(caught.exception.names), tuple)
        for names in (["b", "c"], ("c", "b", "c")):
            with self.assertRaises(NotPossible) as caught:
                inside_case(CHAIN, ["a.k"], names)
            self.assertEqual(caught.exception.names, ("c", "b"))


class Faults(unittest.TestCase):
    def test_unknown_columns(self):
        for column in ("", "orders", "id", "orders.city", "orders.id."):
            for columns in ([column], ["orders.id", column, "none"], (column, "none")):
                for call in (lambda c: exchangeable(BODY, c), lambda c: inside_sets(BODY, c),
                             lambda c: inside_case(BODY, c, ["buyers"]),
                             lambda c: inside_case(BODY, c, ["orders", "buyers"])):
                    with self.assertRaises(NoColumn) as caught:
                        call(columns)
                    self.assertEqual(caught.exception.column, column)


class Lists(unittest.TestCase):
    def test_lists_stay_and_belong_to_the_caller(self):
        columns, names = ["orders.id", "orders.id"], ["orders", "buyers", "orders"]
        inside_case(BODY, columns, names)
        for call in (exchangeable, inside_sets):
            found = call(BODY, columns)
            expected = list(found)
            found.clear()
            self.assertEqual(call(BODY, columns), expected)
        self.assertEqual((columns, names), (["orders.id", "orders.id"], ["orders", "buyers", "orders"]))


if __name__ == "__main__":
    unittest.main()
