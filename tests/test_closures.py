"""Points 2, 15, 16 and 17 and the section shownwrites/closures.py."""

import itertools
import unittest

from shownwrites.bodies import Body
from shownwrites.closures import Split, closure, split, steps
from shownwrites.errors import NoColumn, NoTable
from shownwrites.stores import Store
from shownwrites.tables import Table
from tests.reference import closure_of, columns_of, derivations_of, dice_of, some_body, value_at

A = Table("a", ["k", "x", "y"], ["k"])
B = Table("b", ["k", "x"], ["k"])
C = Table("c", ["p", "q", "r"], ["p", "q"])
CHAIN = Body([C, B, A], [("a.x", "b.k"), ("b.x", "c.p")])
FIXED = Body([C, B, A], [("a.x", "b.k"), ("b.x", "c.p")], [("c.q", "=", 4), ("a.y", "=", 0)])
UNKNOWN = ["", "a", "k", "a.z", "z.k", "a.k.", "A.k", " a.k"]


def column_lists(dice, body):
    """Some lists of columns of the body, with and without repetition."""
    columns = columns_of(body.tables)
    return [[], columns] + [dice.choices(columns, k=dice.randint(1, 3)) for _ in range(4)]


class Closures(unittest.TestCase):
    def test_through_a_chain(self):
        self.assertEqual(closure(CHAIN, ["a.k"]), ("c.p", "b.k", "a.k", "a.y"))
        self.assertEqual(closure(CHAIN, ["a.k", "c.q"]), ("c.p", "c.q", "c.r", "b.k", "a.k", "a.y"))
        self.assertEqual(closure(CHAIN, ["b.k"]), ("c.p", "b.k"))
        self.assertEqual(closure(CHAIN, ["a.x"]), ("c.p", "b.k"))
        self.assertEqual(closure(CHAIN, ["b.x"]), ("c.p",))
        self.assertEqual(closure(CHAIN, ["a.y", "c.r"]), ("c.r", "a.y"))
        self.assertEqual(closure(CHAIN, []), ())

    def test_fixed_classes(self):
        self.assertEqual(closure(FIXED, []), ("c.q", "a.y"))
        self.assertEqual(closure(FIXED, ["b.x"]), ("c.p", "c.q", "c.r", "a.y"))
        self.assertEqual(closure(FIXED, ["a.k"]), ("c.p", "c.q", "c.r", "b.k", "a.k", "a.y"))
        self.assertEqual(closure(FIXED, ["a.k"], using=[]), ("c.q", "a.k", "a.y"))
        keyed = Body([A, B], [("a.x", "b.k")], [("a.k", "=", 1)])
        self.assertEqual(closure(keyed, []), ("a.k", "a.x", "a.y", "b.x"))
        self.assertEqual(closure(keyed, [], using=["b"]), ("a.k",))

    def test_restricted(self):
        self.assertEqual(closure(CHAIN, ["a.k"], using=["a"]), ("b.k", "a.k", "a.y"))
        self.assertEqual(closure(CHAIN, ["a.k"], using=["b"]), ("a.k",))
        self.assertEqual(closure(CHAIN, ["a.k"], using=["b", "a"]), ("c.p", "b.k", "a.k", "a.y"))
        self.assertEqual(closure(CHAIN, ["a.k"], using=("b", "a", "a", "b")),
                         ("c.p", "b.k", "a.k", "a.y"))
        self.assertEqual(closure(CHAIN, ["a.k"], using=[]), ("a.k",))
        self.assertEqual(closure(CHAIN, ["a.k"], using=None), closure(CHAIN, ["a.k"]))
        self.assertEqual(closure(CHAIN, ["a.k", "c.q"], using=["c"]), ("c.q", "a.k"))

    def test_against_the_definition(self):
        dice = dice_of(41)
        for _ in range(150):
            body = some_body(dice, 5)
            for columns in column_lists(dice, body):
                self.assertEqual(closure(body, columns), closure_of(body, columns))
                for size in range(len(body.names) + 1):
                    for names in itertools.combinations(body.names, size):
                        turned = list(names)[::-1]
                        self.assertEqual(closure(body, columns, using=turned),
                                         closure_of(body, columns, turned))

    def test_faults(self):
        for column in UNKNOWN:
            for call in (lambda c: closure(CHAIN, c), lambda c: steps(CHAIN, c),
                         lambda c: split(CHAIN, c), lambda c: closure(CHAIN, c, using=["none"])):
                for columns in ([column], ["a.k", column, "?"], (column, "a.k")):
                    with self.assertRaises(NoColumn) as caught:
                        call(columns)
                    self.assertEqual(caught.exception.column, column)
        for name in ("", "d", "A", "a.k"):
            for names in ([name], ["a", name, "?"], (name, "b")):
                with self.assertRaises(NoTable) as caught:
                    closure(CHAIN, ["a.k"], using=names)
                self.assertEqual(caught.exception.name, name)
        with self.assertRaises(TypeError):
            closure(CHAIN, ["a.k"], ["a"])

    def test_lists_stay(self):
        columns = ["a.k", "c.q", "a.k"]
        names = ["b", "a", "b"]
        closure(CHAIN, columns, using=names)
        found = steps(CHAIN, columns)
        split(CHAIN, columns)
        self.assertEqual((columns, names), (["a.k", "c.q", "a.k"], ["b", "a", "b"]))
        expected = list(found)
        found.clear()
        self.assertEqual(steps(CHAIN, columns), expected)
        self.assertIs(type(closure(CHAIN, columns)), tuple)


class Steps(unittest.TestCase):
    def test_order(self):
        self.assertEqual(steps(CHAIN, ["a.k", "c.q"]),
                         [("a", ("b.k", "a.y")), ("b", ("c.p",)), ("c", ("c.r",))])
        self.assertEqual(steps(CHAIN, ["a.k"]), [("a", ("b.k", "a.y")), ("b", ("c.p",))])
        self.assertEqual(steps(CHAIN, ["a.k", "b.k"]), [("b", ("c.p",)), ("a", ("a.y",))])
        self.assertEqual(steps(CHAIN, ["c.r"]), [])

    def test_tables_that_add_nothing(self):
        self.assertEqual(steps(CHAIN, ["b.k", "b.x"]), [("b", ())])
        self.assertEqual(steps(CHAIN, columns_of([A, B, C])), [("c", ()), ("b", ()), ("a", ())])

    def test_first_in_body_order_is_taken_again_and_again(self):
        # b becomes ready behind c, and stands before d, which was ready already.
        names = ["a", "b", "c", "d"]
        tables = [Table(name, ["k", "x"], ["k"]) for name in names]
        body = Body(tables, [("c.x", "b.k"), ("b.x", "a.k")])
        self.assertEqual(steps(body, ["d.k", "c.k"]), [
            ("c", ("b.k",)), ("b", ("a.k",)), ("a", ("a.x",)), ("d", ("d.x",))])

    def test_class_order_within_a_step(self):
        body = Body([B, Table("w", ["z", "k", "u"], ["k"])], [("w.u", "b.x")])
        self.assertEqual(steps(body, ["w.k"]), [("w", ("b.x", "w.z"))])

    def test_against_the_closure(self):
        dice = dice_of(42)
        for _ in range(150):
            body = some_body(dice, 5)
            for columns in column_lists(dice, body):
                self.check(body, columns)

    def check(self, body, columns):
        known = set(closure_of(body, columns, []))
        taken = []
        found = steps(body, columns)
        for name, heads in found:
            ready = [t for t in body.names if t not in taken and set(body.key_heads(t)) <= known]
            self.assertEqual(name, ready[0])
            fresh = set(body.heads_of(name)) - known
            self.assertEqual(heads, tuple(c[0] for c in body.classes if c[0] in fresh))
            known |= fresh
            taken.append(name)
        for name in body.names:
            self.assertTrue(name in taken or not set(body.key_heads(name)) <= known)
        self.assertEqual(known, set(closure_of(body, columns)))


class Splits(unittest.TestCase):
    def check(self, body, columns):
        """Everything that points 14 and 17 say of a split."""
        reached = closure_of(body, columns)
        found = split(body, columns)
        if len(reached) == len(body.classes):
            self.assertIsNone(found)
            return None
        self.assertIsInstance(found, Split)
        self.assertIsInstance(found.store, Store)
        self.assertEqual(found.store.names, tuple(sorted(body.names)))
        rows = {name: {found.first[at], found.second[at]} for at, name in enumerate(body.names)}
        for table in body.tables:
            self.assertEqual(found.store.table_of(table.name), table)
            self.assertEqual(set(found.store[table.name]), rows[table.name])
        for members in body.classes:
            one = {value_at(body, found.first, column) for column in members}
            two = {value_at(body, found.second, column) for column in members}
            self.assertEqual((len(one), len(two)), (1, 1))
            self.assertEqual(one == two, members[0] in reached)
            self.assertIn(one.pop(), body.region(members[0]))
            self.assertIn(two.pop(), body.region(members[0]))
        held = derivations_of(body, found.store)
        self.assertIn(found.first, held)
        self.assertIn(found.second, held)
        return found

    def test_chain(self):
        self.assertIsNone(split(CHAIN, ["a.k", "c.q"]))
        for columns in ([], ["a.k"], ["c.q"], ["a.y", "c.r"], ("b.k", "c.q")):
            self.assertIsNotNone(self.check(CHAIN, columns))

    def test_regions_far_away(self):
        big = 10 ** 40
        body = Body([A, B], [("a.x", "b.k")], [
            ("a.k", ">", big), ("a.k", "!=", big + 1), ("b.k", "<", -big), ("b.x", "=", -big),
            ("a.y", "!=", 0), ("a.y", "!=", 1)])
        for columns in ([], ["a.x"], ["a.y"], ["b.x"], ["a.y", "a.x"]):
            self.assertIsNotNone(self.check(body, columns))
        self.assertIsNone(split(body, ["a.k"]))

    def test_all_fixed(self):
        self.assertIsNone(split(Body([B], [], [("b.k", "=", 1), ("b.x", "=", 2)]), []))

    def test_many_bodies(self):
        dice = dice_of(43)
        kinds = [self.check(body, columns) is None
                 for body in [some_body(dice, 4) for _ in range(200)]
                 for columns in column_lists(dice, body)]
        self.assertGreater(kinds.count(True), 100)
        self.assertGreater(kinds.count(False), 100)


if __name__ == "__main__":
    unittest.main()
