"""Points 2, 11, 12 and 13 and the section shownwrites/bodies.py."""

import itertools
import unittest

from shownwrites.bodies import Body
from shownwrites.errors import (BadCount, BadSign, DuplicateTable, Empty, Narrow, NoColumn, NoTable,
                                SameTable)
from shownwrites.regions import Region
from shownwrites.tables import Table
from tests.reference import classes_of, columns_of, dice_of, some_table

BIG = 10 ** 40
A = Table("a", ["k", "x", "y"], ["k"])
B = Table("b", ["k", "x", "y"], ["x", "k"])
C = Table("c", ["k", "x", "y"], ["y"])
UNKNOWN = ["", "a", "k", ".", "a.", ".k", "a.z", "z.k", "a.k.k", "a.k ", " a.k", "a k", "A.k", "a.K",
           "a..k", "ab.k", "a.key", "d.k"]


class Attributes(unittest.TestCase):
    def setUp(self):
        self.body = Body([B, A, C], [("a.k", "c.y"), ("b.x", "c.y"), ("a.y", "c.k")],
                         [("c.y", ">", 0), ("b.y", "=", 7), ("a.x", "!=", 4), ("a.x", "!=", 5)])

    def test_tables_and_names(self):
        self.assertEqual(self.body.tables, (B, A, C))
        self.assertEqual(self.body.names, ("b", "a", "c"))
        self.assertIs(type(self.body.tables), tuple)
        self.assertIs(type(self.body.names), tuple)

    def test_classes_and_heads(self):
        self.assertEqual(self.body.classes, (
            ("b.k",), ("b.x", "a.k", "c.y"), ("b.y",), ("a.x",), ("a.y", "c.k"), ("c.x",)))
        self.assertEqual(self.body.open_heads, ("b.k", "b.x", "a.x", "a.y", "c.x"))
        for members in self.body.classes:
            for column in members:
                self.assertEqual(self.body.head(column), members[0])

    def test_regions(self):
        expected = {"b.k": Region(), "b.x": Region(1), "b.y": Region(7, 7),
                    "a.x": Region(None, None, [4, 5]), "a.y": Region(), "c.x": Region()}
        for members in self.body.classes:
            for column in members:
                self.assertEqual(self.body.region(column), expected[members[0]])
                self.assertEqual(self.body.fixed(column), 7 if members[0] == "b.y" else None)

    def test_heads_of_tables(self):
        self.assertEqual(self.body.heads_of("a"), ("b.x", "a.x", "a.y"))
        self.assertEqual(self.body.heads_of("b"), ("b.k", "b.x", "b.y"))
        self.assertEqual(self.body.heads_of("c"), ("a.y", "c.x", "b.x"))
        self.assertEqual(self.body.key_heads("a"), ("b.x",))
        self.assertEqual(self.body.key_heads("b"), ("b.k", "b.x"))
        self.assertEqual(self.body.key_heads("c"), ("b.x",))

    def test_unknown_columns(self):
        for column in UNKNOWN:
            for method in (self.body.head, self.body.region, self.body.fixed):
                with self.assertRaises(NoColumn) as caught:
                    method(column)
                self.assertEqual(caught.exception.column, column)

    def test_unknown_tables(self):
        for name in ("", "d", "A", "a.k", "ab"):
            for method in (self.body.heads_of, self.body.key_heads):
                with self.assertRaises(NoTable) as caught:
                    method(name)
                self.assertEqual(caught.exception.name, name)

    def test_fixed_to_nothing_and_zero(self):
        body = Body([A], [], [("a.k", "=", 0), ("a.x", "=", -BIG)])
        self.assertEqual((body.fixed("a.k"), body.fixed("a.x"), body.fixed("a.y")), (0, -BIG, None))
        self.assertEqual(body.open_heads, ("a.y",))
        self.assertEqual(Body([A], [], [(f"a.{c}", "=", 1) for c in "kxy"]).open_heads, ())


class Classes(unittest.TestCase):
    def test_against_paths_of_links(self):
        dice = dice_of(11)
        refused = 0
        for _ in range(400):
            names = dice.sample(["p", "q", "r", "s", "t", "u"], dice.randint(1, 6))
            tables = [some_table(dice, name) for name in names]
            columns = columns_of(tables)
            links = [(dice.choice(columns), dice.choice(columns)) for _ in range(dice.randint(0, 6))]
            due = self.first_fault(tables, links)
            if due is None:
                body = Body(tables, links)
                self.assertEqual(body.classes, classes_of(tables, links))
                self.assertEqual(body.open_heads, tuple(c[0] for c in body.classes))
            else:
                refused += 1
                with self.assertRaises(SameTable) as caught:
                    Body(tables, links)
                self.assertEqual(caught.exception.name, due)
        self.assertGreater(refused, 50)

    def first_fault(self, tables, links):
        """The table that the first wrong link joins with itself."""
        for end in range(1, len(links) + 1):
            for table in tables:
                for members in classes_of(tables, links[:end]):
                    if sum(1 for c in members if c.startswith(table.name + ".")) > 1:
                        if links[end - 1][0] in members:
                            return table.name
        return None

    def test_order_of_links_means_nothing(self):
        links = [("a.k", "b.k"), ("c.k", "b.k"), ("a.x", "c.y")]
        bodies = [Body([A, B, C], [link[::step] for link in order])
                  for order in itertools.permutations(links) for step in (1, -1)]
        for body in bodies:
            self.assertEqual(body, bodies[0])
            self.assertEqual(body.classes, (("a.k", "b.k", "c.k"), ("a.x", "c.y"), ("a.y",),
                                            ("b.x",), ("b.y",), ("c.x",)))

    def test_link_of_a_column_with_itself(self):
        body = Body([A, B], [("a.k", "a.k"), ("a.x", "b.x"), ("b.x", "b.x"), ("b.x", "a.x")])
        self.assertEqual(body, Body([A, B], [("a.x", "b.x")]))

    def test_names_with_a_common_beginning(self):
        one = Table("a", ["b", "b1"], ["b"])
        two = Table("a1", ["b", "b1"], ["b"])
        body = Body([two, one], [("a.b", "a1.b1")])
        self.assertEqual(body.classes, (("a1.b",), ("a1.b1", "a.b"), ("a.b1",)))

    def test_six_tables_in_one_class(self):
        tables = [Table(name, ["x"], ["x"]) for name in "fedcba"]
        body = Body(tables, [("a.x", "b.x"), ("c.x", "d.x"), ("e.x", "f.x"), ("b.x", "c.x"),
                             ("a.x", "f.x")])
        self.assertEqual(body.classes, (("f.x", "e.x", "d.x", "c.x", "b.x", "a.x"),))


class Faults(unittest.TestCase):
    def refused(self, kind, field, told, *arguments):
        with self.assertRaises(kind) as caught:
            Body(*arguments)
        self.assertEqual(getattr(caught.exception, field), told)

    def test_number_of_tables(self):
        self.refused(BadCount, "count", 0, [])
        self.refused(BadCount, "count", 0, (), [("a.k", "b.k")])
        tables = [Table(f"t{n}", ["k"], ["k"]) for n in range(8)]
        self.refused(BadCount, "count", 7, tables[:7])
        self.refused(BadCount, "count", 8, tables)
        self.refused(BadCount, "count", 7, [A] * 7)
        self.assertEqual(len(Body(tables[:6]).classes), 6)
        self.assertEqual(len(Body(tables[:1]).classes), 1)

    def test_tables_of_one_name(self):
        other = Table("a", ["z"], ["z"])
        self.refused(DuplicateTable, "name", "a", [A, B, other, B])
        self.refused(DuplicateTable, "name", "b", [A, B, B, A])
        self.refused(DuplicateTable, "name", "a", [A, A], [("z.z", "z.z")], [("z.z", "?", 1)])

    def test_links_with_unknown_columns(self):
        for column in UNKNOWN:
            self.refused(NoColumn, "column", column, [A, B], [("a.k", "b.k"), (column, "a.k")])
            self.refused(NoColumn, "column", column, [A, B], [("a.k", column), ("?", "a.k")])
            self.refused(NoColumn, "column", column, [A, B], [(column, "?")])
            self.refused(NoColumn, "column", column, [A, B], [(column, column)])

    def test_links_of_one_table(self):
        self.refused(SameTable, "name", "a", [A], [("a.k", "a.x")])
        self.refused(SameTable, "name", "b", [A, B], [("b.k", "a.k"), ("a.k", "b.x")])
        self.refused(SameTable, "name", "c", [C, A, B],
                     [("a.k", "c.k"), ("b.k", "c.x"), ("b.k", "a.k")])
        self.refused(SameTable, "name", "a", [A, B], [("a.x", "b.x"), ("a.y", "b.y"), ("a.x", "b.y")])
        self.refused(SameTable, "name", "b", [B, A], [("a.x", "b.x"), ("a.y", "b.y"), ("a.x", "b.y")])

    def test_links_one_after_another(self):
        self.refused(SameTable, "name", "a", [A, B], [("a.k", "a.x"), ("a.k", "?")])
        self.refused(NoColumn, "column", "?", [A, B], [("a.k", "?"), ("a.k", "a.x")])
        self.refused(SameTable, "name", "b", [A, B], [("b.k", "b.x"), ("a.k", "a.x")])

    def test_conditions(self):
        for column in UNKNOWN:
            self.refused(NoColumn, "column", column, [A], [], [("a.k", "=", 1), (column, "=", 1)])
            self.refused(NoColumn, "column", column, [A], [], [(column, "?", 1), ("a.k", "!", 1)])
        for sign in ("", "==", "<>", "=>", "=<", "!", " =", "= "):
            self.refused(BadSign, "sign", sign, [A], [], [("a.k", sign, 1), ("?", "=", 1)])
            self.refused(BadSign, "sign", sign, [A], [],
                         [("a.k", "=", 1), ("a.k", "=", 2), ("a.k", sign, 1)])

    def test_links_before_conditions(self):
        self.refused(SameTable, "name", "a", [A], [("a.k", "a.x")], [("?", "?", 1)])
        self.refused(NoColumn, "column", "left", [A], [("left", "a.x")], [("right", "=", 1)])

    def test_empty_and_narrow(self):
        self.refused(Empty, "column", "a.k", [A], [], [("a.k", "<", 1), ("a.k", ">", 0)])
        self.refused(Empty, "column", "a.k", [A], [], [("a.k", "=", 1), ("a.k", "!=", 1)])
        self.refused(Narrow, "column", "a.k", [A], [], [("a.k", "<", 3), ("a.k", ">", 0)])
        self.refused(Narrow, "column", "a.k", [A], [], [("a.k", "<=", BIG), ("a.k", ">=", -BIG)])
        self.refused(Narrow, "column", "a.k", [A], [],
                     [("a.k", "<", 5), ("a.k", ">", 0), ("a.k", "!=", 2), ("a.k", "!=", 3)])

    def test_told_with_the_head(self):
        links = [("c.y", "b.k"), ("b.k", "a.x")]
        self.refused(Empty, "column", "a.x", [A, B, C], links, [("c.y", "=", 1), ("b.k", "=", 2)])
        self.refused(Narrow, "column", "b.k", [B, C, A], links,
                     [("c.y", ">=", 1), ("a.x", "<", 3), ("b.k", "!=", 5)])

    def test_first_class_is_told(self):
        empty_x = [("a.x", "=", 1), ("a.x", "=", 2)]
        narrow_y = [("a.y", ">", 1), ("a.y", "<", 4)]
        narrow_k = [("a.k", ">", 1), ("a.k", "<", 4)]
        self.refused(Empty, "column", "a.x", [A], [], narrow_y + empty_x)
        self.refused(Narrow, "column", "a.k", [A], [], narrow_y + empty_x + narrow_k)
        self.refused(NoColumn, "column", "?", [A], [], empty_x + [("?", "=", 1)])
        self.refused(Narrow, "column", "b.y", [B, A], [], empty_x + [("b.y", ">", 0), ("b.y", "<", 3)])

    def test_one_member_is_fixed(self):
        body = Body([A], [], [("a.k", ">", 0), ("a.k", "<", 4), ("a.k", "!=", 1), ("a.k", "!=", 3)])
        self.assertEqual((body.fixed("a.k"), body.open_heads), (2, ("a.x", "a.y")))
        self.assertEqual(Body([A], [], [("a.k", "=", 5), ("a.k", "=", 5)]).fixed("a.k"), 5)


class Conditions(unittest.TestCase):
    def test_region_is_what_all_conditions_allow(self):
        signs = ["=", "!=", "<", "<=", ">", ">="]
        dice = dice_of(12)
        for _ in range(300):
            conditions = [(dice.choice(["a.x", "b.k"]), dice.choice(signs), dice.randint(-3, 3))
                          for _ in range(dice.randint(0, 5))]
            region = Region()
            for _, sign, number in conditions:
                region = region & Region.of(sign, number)
            fault = None
            if region.size is not None and region.size != 1:
                fault = Narrow if region else Empty
            if fault is None:
                body = Body([A, B], [("a.x", "b.k")], conditions)
                self.assertEqual(body.region("b.k"), region)
                self.assertEqual(body.fixed("a.x"), region.value)
            else:
                with self.assertRaises(fault):
                    Body([A, B], [("a.x", "b.k")], conditions)


class Equality(unittest.TestCase):
    def test_equal(self):
        body = Body([A, B, C], [("a.k", "b.k"), ("b.k", "c.k")], [("a.k", ">", 3), ("a.x", "=", 1)])
        self.assertTrue(body == Body((A, B, C), [("c.k", "a.k"), ("a.k", "b.k")],
                                     [("b.k", ">=", 4), ("a.x", "<=", 1), ("a.x", ">", 0)]))
        self.assertTrue(Body([A]) == Body([Table("a", ["k", "x", "y"], ["k"])]))

    def test_unequal(self):
        links = [("a.k", "b.k")]
        body = Body([A, B], links, [("a.k", ">", 3)])
        others = [Body([B, A], links, [("a.k", ">", 3)]), Body([A, B], [], [("a.k", ">", 3)]),
                  Body([A, B], [("a.k", "b.x")], [("a.k", ">", 3)]), Body([A, B], links),
                  Body([A, B], links, [("a.k", ">", 4)]), Body([A, C], [("a.k", "c.k")], [("a.k", ">", 3)]),
                  Body([A, Table("b", ["k", "x", "y"], ["k"])], links, [("a.k", ">", 3)]),
                  Body([A], [], [("a.k", ">", 3)]), A, None, "a", (A, B)]
        for other in others:
            self.assertIs(body == other, False)
            self.assertIs(body != other, True)

    def test_same_heads_but_other_classes(self):
        one = Body([A, B, C], [("a.k", "c.y")])
        two = Body([A, B, C], [("b.x", "c.y")])
        self.assertEqual(one.open_heads, two.open_heads)
        self.assertIs(one == two, False)


class Copies(unittest.TestCase):
    def test_lists_are_copied(self):
        tables = [A, B]
        links = [("a.k", "b.k")]
        conditions = [("a.x", "=", 1)]
        body = Body(tables, links, conditions)
        self.assertEqual((tables, links, conditions),
                         ([A, B], [("a.k", "b.k")], [("a.x", "=", 1)]))
        tables[0] = C
        tables.append(C)
        links.append(("a.x", "b.x"))
        conditions.clear()
        self.assertEqual(body, Body([A, B], [("a.k", "b.k")], [("a.x", "=", 1)]))
        self.assertEqual((body.names, body.fixed("a.x")), (("a", "b"), 1))
        self.assertEqual(body.heads_of("b"), ("a.k", "b.x", "b.y"))

    def test_tuples_are_taken(self):
        self.assertEqual(Body((A, B), (("a.k", "b.k"),), (("a.x", "=", 1),)),
                         Body([A, B], [("a.k", "b.k")], [("a.x", "=", 1)]))


if __name__ == "__main__":
    unittest.main()
