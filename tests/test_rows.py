"""Points 2, 14 and 18 and the section shownwrites/rows.py."""

import itertools
import unittest

from shownwrites.bodies import Body
from shownwrites.errors import NoTable, Unlike
from shownwrites.rows import class_values, derivations, deriving, walk
from shownwrites.stores import Store
from shownwrites.tables import Table
from tests.reference import derivations_of, dice_of, some_body, some_store, value_at

BIG = 10 ** 40
ORDERS = Table("orders", ["id", "person", "item"], ["id"])
PEOPLE = Table("people", ["city", "id"], ["id"])
ITEMS = Table("items", ["kind", "shop", "id"], ["id", "shop"])


def plain(names):
    """Tables with a key and two further columns."""
    return [Table(name, ["k", "x", "y"], ["k"]) for name in names]


class Derivations(unittest.TestCase):
    def check(self, body, store):
        found = derivations(body, store)
        self.assertEqual(found, derivations_of(body, store))
        self.assertIs(type(found), list)
        for rows in found:
            self.assertIs(type(rows), tuple)
        self.assertEqual(list(walk(body, store)), found)
        return found

    def test_one_table(self):
        store = Store([PEOPLE], {"people": [(9, 10), (10, 9), (-1, 100), (3, -5)]})
        self.assertEqual(self.check(Body([PEOPLE]), store),
                         [((3, -5),), ((10, 9),), ((9, 10),), ((-1, 100),)])
        self.assertEqual(self.check(Body([PEOPLE], [], [("people.city", ">", 3)]), store),
                         [((10, 9),), ((9, 10),)])
        self.assertEqual(self.check(Body([PEOPLE], [], [("people.city", "=", 3)]), store), [((3, -5),)])
        self.assertEqual(self.check(Body([PEOPLE], [], [("people.id", "!=", 9), ("people.id", ">", 0)]),
                                    store), [((9, 10),), ((-1, 100),)])

    def test_order_by_the_keys_of_the_tables(self):
        store = Store([ORDERS, PEOPLE], {
            "orders": [(10, 9, 1), (9, 10, 1), (100, 9, 1), (2, 99, 1)],
            "people": [(1, 9), (0, 10), (5, 8)]})
        link = [("orders.person", "people.id")]
        self.assertEqual(self.check(Body([ORDERS, PEOPLE], link), store), [
            ((9, 10, 1), (0, 10)), ((10, 9, 1), (1, 9)), ((100, 9, 1), (1, 9))])
        self.assertEqual(self.check(Body([PEOPLE, ORDERS], link), store), [
            ((1, 9), (10, 9, 1)), ((1, 9), (100, 9, 1)), ((0, 10), (9, 10, 1))])

    def test_order_is_by_keys_and_not_by_rows(self):
        one = Table("one", ["x", "k"], ["k"])
        two = Table("two", ["x", "k"], ["k"])
        store = Store([one, two], {"one": [(5, 1), (4, 2), (3, 3)], "two": [(9, 1), (0, 2)]})
        self.assertEqual(self.check(Body([one, two]), store), [
            ((5, 1), (9, 1)), ((5, 1), (0, 2)), ((4, 2), (9, 1)), ((4, 2), (0, 2)),
            ((3, 3), (9, 1)), ((3, 3), (0, 2))])

    def test_keys_of_several_columns(self):
        store = Store([ITEMS, ORDERS], {
            "items": [(1, 2, 7), (2, 10, 7), (3, 9, 7), (4, 1, 10), (5, 3, 9)],
            "orders": [(1, 0, 7), (2, 0, 10), (3, 0, 9), (4, 0, 7)]})
        body = Body([ITEMS, ORDERS], [("items.id", "orders.item")])
        self.assertEqual([rows[0][1:] + rows[1][:1] for rows in self.check(body, store)], [
            (1, 10, 2), (2, 7, 1), (2, 7, 4), (3, 9, 3), (9, 7, 1), (9, 7, 4), (10, 7, 1), (10, 7, 4)])

    def test_without_links(self):
        tables = plain("cab")
        rows = {"a": [(1, 0, 0), (2, 5, 0)], "b": [(3, 0, 0)], "c": [(10, 0, 0), (9, 0, 0)]}
        store = Store(tables, rows)
        self.assertEqual(len(self.check(Body(tables), store)), 4)
        self.assertEqual(len(self.check(Body(tables, [], [("a.x", "=", 5)]), store)), 2)
        self.assertEqual(self.check(Body(tables, [], [("b.x", "=", 5)]), store), [])

    def test_links_between_tables_that_stand_apart(self):
        dice = dice_of(51)
        for order in itertools.permutations("abcd"):
            body = Body(plain(order), [("a.x", "c.k"), ("b.x", "d.k"), ("c.y", "d.x")])
            self.check(body, some_store(dice, body.tables, 6))

    def test_several_classes_between_two_tables(self):
        dice = dice_of(52)
        for _ in range(20):
            body = Body(plain("ab"), [("a.x", "b.y"), ("a.y", "b.x")])
            self.check(body, some_store(dice, body.tables, 6))
            body = Body(plain("ab"), [("a.k", "b.k"), ("a.x", "b.x"), ("a.y", "b.y")])
            self.check(body, some_store(dice, body.tables, 6))

    def test_rings(self):
        dice = dice_of(53)
        for _ in range(20):
            body = Body(plain("abc"), [("a.x", "b.y"), ("b.x", "c.y"), ("c.x", "a.y")])
            self.check(body, some_store(dice, body.tables, 8))

    def test_one_class_over_six_tables(self):
        tables = plain("fbdace")
        body = Body(tables, [("a.x", f"{name}.x") for name in "bcdef"])
        dice = dice_of(54)
        for _ in range(5):
            self.check(body, some_store(dice, tables, 4))

    def test_fixed_links(self):
        tables = plain("ab")
        body = Body(tables, [("a.x", "b.x")], [("b.x", "=", 1)])
        store = Store(tables, {"a": [(1, 1, 0), (2, 1, 0), (3, 2, 0)], "b": [(1, 2, 0), (2, 1, 0)]})
        self.assertEqual(self.check(body, store), [((1, 1, 0), (2, 1, 0)), ((2, 1, 0), (2, 1, 0))])

    def test_values_far_away(self):
        store = Store([PEOPLE, ORDERS], {
            "people": [(BIG, -BIG), (-BIG, BIG), (1, BIG + 1)],
            "orders": [(1, BIG, 0), (2, -BIG, 0), (3, BIG + 1, 0), (4, BIG - 1, 0)]})
        body = Body([PEOPLE, ORDERS], [("people.id", "orders.person")], [("people.id", "<=", BIG)])
        self.assertEqual(self.check(body, store), [
            ((BIG, -BIG), (2, -BIG, 0)), ((-BIG, BIG), (1, BIG, 0))])

    def test_bodies_of_up_to_four_tables(self):
        dice = dice_of(55)
        found = 0
        for _ in range(500):
            body = some_body(dice, 4)
            found += bool(self.check(body, some_store(dice, body.tables)))
        self.assertGreater(found, 100)

    def test_bodies_of_five_and_six_tables(self):
        dice = dice_of(56)
        sizes = []
        while sizes.count(5) < 15 or sizes.count(6) < 15:
            body = some_body(dice, 6)
            if len(body.tables) > 4:
                sizes.append(len(body.tables))
                self.check(body, some_store(dice, body.tables, 4))

    def test_further_tables(self):
        more = Table("aa", ["k"], ["k"])
        store = Store([PEOPLE, ORDERS, more], {"people": [(1, 2)], "orders": [(1, 2, 3)], "aa": [(5,)]})
        self.assertEqual(self.check(Body([PEOPLE]), store), [((1, 2),)])

    def test_empty_tables(self):
        body = Body(plain("abc"))
        for name in "abc":
            rows = {other: [(n, n, n) for n in range(3)] for other in "abc" if other != name}
            self.assertEqual(self.check(body, Store(body.tables, rows)), [])
        self.assertEqual(self.check(body, Store(body.tables)), [])


class Long(unittest.TestCase):
    """Stores in which trying all combinations of rows would never end."""

    def test_tables_that_only_a_later_one_links(self):
        tables = plain("abc")
        many = 10000
        store = Store(tables, {name: [(n, (n * 7) % many, n) for n in range(many)] for name in "abc"})
        body = Body(tables, [("a.k", "c.x"), ("b.k", "c.y")])
        found = derivations(body, store)
        self.assertEqual(len(found), many)
        self.assertEqual([rows[0][0] for rows in found], list(range(many)))

    def test_walk_does_not_wait_for_all(self):
        tables = plain("abcdef")
        store = Store(tables, {name: [(n, 1, n) for n in range(50)] for name in "abcdef"})
        for links in ([], [("a.x", f"{name}.x") for name in "bcdef"], [("a.x", "f.x"), ("b.k", "e.y")]):
            rows = walk(Body(tables, links), store)
            first = [next(rows) for _ in range(3)]
            self.assertEqual([row[5][0] for row in first], [0, 1, 2])
            self.assertEqual({row[:5] for row in first}, {((0, 1, 0),) * 5})

    def test_parts_are_not_joined(self):
        many = 500
        tables = plain("abcdef")
        store = Store(tables, {name: [(n, n, 1) for n in range(many)] for name in "abcdef"})
        links = [("a.x", "d.k"), ("b.x", "e.k"), ("c.x", "f.k")]
        links += [("a.y", f"{name}.y") for name in "bcdef"]
        rows = walk(Body(tables, links, [("a.y", "=", 1)]), store)
        for number in range(3):
            last = (number, number, 1)
            self.assertEqual(next(rows), ((0, 0, 1), (0, 0, 1), last, (0, 0, 1), (0, 0, 1), last))

    def test_deriving_begins_with_the_row(self):
        many = 5000
        tables = plain("abcd")
        rows = [(n, 1, n) for n in range(many)]
        body = Body(tables, [("a.x", "b.x"), ("b.k", "c.k"), ("a.k", "d.y")])
        store = Store(tables, {name: rows for name in "abcd"})
        found = deriving(body, store, "d", (7, 1, 7))
        self.assertEqual(found, [((7, 1, 7), (n, 1, n), (n, 1, n), (7, 1, 7)) for n in range(many)])

    def test_nothing_found_soon(self):
        tables = plain("abcdef")
        store = Store(tables, {name: [(n, n, n) for n in range(50)] for name in "abcdef"})
        for conditions in ([("f.x", "=", 99)], [("a.x", "=", 99)]):
            self.assertEqual(derivations(Body(tables, [], conditions), store), [])


class Faults(unittest.TestCase):
    def check(self, kind, name, body, store):
        calls = [lambda: derivations(body, store), lambda: list(walk(body, store)),
                 lambda: next(walk(body, store)), lambda: deriving(body, store, body.names[-1], ())]
        for call in calls:
            with self.assertRaises(kind) as caught:
                call()
            self.assertEqual(caught.exception.name, name)

    def test_first_table_that_is_due(self):
        a, b, c = plain("abc")
        other_b = Table("b", ["k", "x", "y"], ["k", "x"])
        other_c = Table("c", ["k", "y", "x"], ["k"])
        self.check(NoTable, "c", Body([c, a, b]), Store([]))
        self.check(NoTable, "b", Body([c, b, a]), Store([c]))
        self.check(Unlike, "b", Body([a, b, c]), Store([a, other_b, c]))
        self.check(Unlike, "c", Body([c, b, a]), Store([a, other_b, other_c]))
        self.check(Unlike, "b", Body([b, c]), Store([other_b]))
        self.check(NoTable, "c", Body([c, b]), Store([other_b]))

    def test_unknown_table_before_all(self):
        body = Body(plain("ab"))
        for name in ("", "c", "a.k", "A"):
            for store in (Store([]), Store(plain("abc"), {"c": [(1, 1, 1)]})):
                with self.assertRaises(NoTable) as caught:
                    deriving(body, store, name, (1, 1, 1))
                self.assertEqual(caught.exception.name, name)


class Deriving(unittest.TestCase):
    def test_against_the_definition(self):
        dice = dice_of(57)
        for _ in range(150):
            body = some_body(dice, 4)
            store = some_store(dice, body.tables)
            expected = derivations_of(body, store)
            for at, name in enumerate(body.names):
                for row in [*store[name], (), (1,), (7, 7, 7)]:
                    found = deriving(body, store, name, row)
                    self.assertIs(type(found), list)
                    self.assertEqual(found, [rows for rows in expected if rows[at] == row])

    def test_same_key_but_another_row(self):
        store = Store([PEOPLE], {"people": [(1, 2)]})
        self.assertEqual(deriving(Body([PEOPLE]), store, "people", (1, 2)), [((1, 2),)])
        self.assertEqual(deriving(Body([PEOPLE]), store, "people", (3, 2)), [])


class Values(unittest.TestCase):
    def test_class_values(self):
        body = Body([ORDERS, PEOPLE], [("people.id", "orders.person")], [("people.city", "=", 4)])
        self.assertEqual(class_values(body, ((1, 2, 3), (4, 2))), (1, 2, 3, 4))
        self.assertEqual(class_values(Body([PEOPLE]), ((BIG, -BIG),)), (BIG, -BIG))
        self.assertIs(type(class_values(Body([PEOPLE]), ((1, 2),))), tuple)

    def test_against_the_definition(self):
        dice = dice_of(58)
        for _ in range(100):
            body = some_body(dice, 4)
            for rows in derivations(body, some_store(dice, body.tables)):
                self.assertEqual(class_values(body, rows), tuple(
                    value_at(body, rows, members[-1]) for members in body.classes))


class Lists(unittest.TestCase):
    def test_returned_lists_belong_to_the_caller(self):
        body = Body([PEOPLE])
        store = Store([PEOPLE], {"people": [(1, 2), (3, 4)]})
        for call in (lambda: derivations(body, store), lambda: deriving(body, store, "people", (1, 2))):
            found = call()
            expected = list(found)
            found.append(None)
            found[0] = None
            self.assertEqual(call(), expected)
        self.assertEqual(store["people"], [(1, 2), (3, 4)])

    def test_walks_are_independent(self):
        body = Body([PEOPLE])
        store = Store([PEOPLE], {"people": [(1, 2), (3, 4)]})
        one, two = walk(body, store), walk(body, store)
        self.assertEqual([next(one), next(two), next(two), next(one)],
                         [((1, 2),), ((1, 2),), ((3, 4),), ((3, 4),)])
        self.assertEqual((list(one), list(two)), ([], []))


if __name__ == "__main__":
    unittest.main()
