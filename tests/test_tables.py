"""Points 2, 3 and 6 and the section shownwrites/tables.py."""

import itertools
import string
import unittest

from shownwrites.errors import InvalidRow, InvalidTable
from shownwrites.tables import Table, is_name

ODD = (string.ascii_uppercase + string.punctuation.replace("_", "") + " \t\n\r\x00"
       + "\u00e4\u00df\u00e9\u03b1\u0663\u00b2\uff41\u0430\u200b")


class Names(unittest.TestCase):
    def test_lengths(self):
        self.assertIs(is_name(""), False)
        for size in range(1, 21):
            self.assertIs(is_name("a" * size), True)
            self.assertIs(is_name("z" + "_" * (size - 1)), True)
        for size in (21, 22, 40, 1000):
            self.assertIs(is_name("a" * size), False)

    def test_first_character(self):
        for letter in string.ascii_lowercase:
            self.assertIs(is_name(letter), True)
            self.assertIs(is_name(letter + "1"), True)
        for letter in string.digits + "_" + ODD:
            self.assertIs(is_name(letter), False)
            self.assertIs(is_name(letter + "a"), False)

    def test_further_characters(self):
        for letter in string.ascii_lowercase + string.digits + "_":
            self.assertIs(is_name("a" + letter), True)
            self.assertIs(is_name("a" + letter * 19), True)
            self.assertIs(is_name("ab" + letter + "c"), True)
        for letter in ODD:
            self.assertIs(is_name("a" + letter), False, repr(letter))
            self.assertIs(is_name("a" + letter + "b"), False, repr(letter))
            self.assertIs(is_name("a" * 19 + letter), False, repr(letter))

    def test_pieces_of_the_alphabet(self):
        self.assertIs(is_name("abc"), True)
        self.assertIs(is_name("a.b"), False)


class Tables(unittest.TestCase):
    def test_attributes(self):
        table = Table("stock", ["shop", "code", "amount"], ["shop", "code"])
        self.assertEqual(table.name, "stock")
        self.assertEqual(table.columns, ("shop", "code", "amount"))
        self.assertEqual(table.key, ("shop", "code"))
        self.assertIs(type(table.columns), tuple)
        self.assertIs(type(table.key), tuple)

    def test_key_in_the_order_of_the_columns(self):
        columns = ("d", "b", "a", "c")
        for size in range(1, 5):
            for key in itertools.permutations(columns, size):
                table = Table("t", columns, key)
                self.assertEqual(table.key, tuple(c for c in columns if c in key))
                self.assertEqual(table.columns, columns)
                row = (10, 20, 30, 40)
                self.assertEqual(table.key_of(row), tuple(
                    n for c, n in zip(columns, row) if c in key))

    def test_invalid(self):
        wrong = [
            ("", ["a"], ["a"]), ("T", ["a"], ["a"]), ("t" * 21, ["a"], ["a"]), ("1", ["a"], ["a"]),
            ("a.b", ["a"], ["a"]), ("_t", ["a"], ["a"]),
            ("t", [], []), ("t", [], ["a"]), ("t", ["a"], []), ("t", ["a", "b"], ()),
            ("t", ["a", "a"], ["a"]), ("t", ["a", "b", "a"], ["b"]),
            ("t", ["a", "A"], ["a"]), ("t", ["a", ""], ["a"]), ("t", ["a", "b" * 21], ["a"]),
            ("t", ["a", "t.b"], ["a"]), ("t", ["1a"], ["1a"]),
            ("t", ["a"], ["a", "a"]), ("t", ["a", "b"], ["b", "a", "b"]),
            ("t", ["a", "b"], ["c"]), ("t", ["a", "b"], ["a", "c"]), ("t", ["a"], [""]),
            ("t", ["a"], ["t.a"]),
        ]
        for name, columns, key in wrong:
            for kind in (list, tuple):
                with self.assertRaises(InvalidTable, msg=(name, columns, key)) as caught:
                    Table(name, kind(columns), kind(key))
                self.assertEqual(caught.exception.name, name)

    def test_many_columns(self):
        columns = [f"c{n}" for n in range(200)]
        table = Table("wide", columns, [columns[150], columns[3]])
        self.assertEqual(table.key, ("c3", "c150"))
        self.assertEqual(table.key_of(tuple(range(200))), (3, 150))

    def test_fits(self):
        table = Table("t", ["a", "b"], ["b"])
        for row, answer in (((), False), ((1,), False), ((1, 2), True), ((1, 2, 3), False)):
            self.assertIs(table.fits(row), answer)

    def test_key_of(self):
        table = Table("t", ["a", "b", "c"], ["c", "a"])
        self.assertEqual(table.key_of((1, 2, 3)), (1, 3))
        self.assertEqual(table.key_of((10 ** 40, 2, -10 ** 5000)), (10 ** 40, -10 ** 5000))
        for row in ((), (1,), (1, 2), (1, 2, 3, 4), (10 ** 5000,)):
            with self.assertRaises(InvalidRow) as caught:
                table.key_of(row)
            self.assertEqual((caught.exception.name, caught.exception.row), ("t", row))

    def test_equality(self):
        table = Table("t", ["a", "b", "c"], ["a", "b"])
        self.assertTrue(table == Table("t", ("a", "b", "c"), ("b", "a")))
        self.assertFalse(table != Table("t", ("a", "b", "c"), ("b", "a")))
        others = [Table("s", ["a", "b", "c"], ["a", "b"]), Table("t", ["a", "c", "b"], ["a", "b"]),
                  Table("t", ["a", "b", "c"], ["a"]), Table("t", ["a", "b", "c"], ["a", "c"]),
                  Table("t", ["a", "b"], ["a", "b"]), "t", None, ("t", ("a", "b", "c"), ("a", "b"))]
        for other in others:
            self.assertIs(table == other, False)
            self.assertIs(table != other, True)

    def test_lists_are_copied(self):
        columns = ["a", "b", "c"]
        key = ["c", "a"]
        table = Table("t", columns, key)
        self.assertEqual((columns, key), (["a", "b", "c"], ["c", "a"]))
        columns[0] = "x"
        columns.append("d")
        key.append("b")
        self.assertEqual((table.columns, table.key), (("a", "b", "c"), ("a", "c")))
        self.assertEqual(table.key_of((1, 2, 3)), (1, 3))
        self.assertTrue(table.fits((1, 2, 3)))


if __name__ == "__main__":
    unittest.main()
