"""Points 2, 9 and 10 and the section shownwrites/stores.py."""

import itertools
import unittest

from shownwrites.edits import Edit
from shownwrites.errors import DuplicateKey, DuplicateTable, InvalidRow, Misfit, NoTable, Unlike
from shownwrites.stores import Store
from shownwrites.tables import Table
from tests.reference import dice_of, some_rows, some_store, some_table

STOCK = Table("stock", ["shop", "code", "amount"], ["code", "shop"])
GOODS = Table("goods", ["kind", "code"], ["code"])
NOTES = Table("notes", ["n"], ["n"])
ROWS = {"stock": [(2, 7, 5), (1, 10, 4), (1, 9, 20)], "goods": [(3, 10), (6, 9), (3, -1)]}


def content(store):
    """All that a store holds."""
    return [(table.name, table.columns, table.key, store[table.name]) for table in store.tables]


class Contents(unittest.TestCase):
    def setUp(self):
        self.store = Store([STOCK, NOTES, GOODS], ROWS)

    def test_tables_in_order(self):
        for tables in itertools.permutations([STOCK, NOTES, GOODS]):
            store = Store(tables, ROWS)
            self.assertEqual(store.tables, (GOODS, NOTES, STOCK))
            self.assertEqual(store.names, ("goods", "notes", "stock"))
            self.assertEqual(content(store), content(self.store))
            self.assertEqual(store, self.store)
        self.assertIs(type(self.store.tables), tuple)
        self.assertIs(type(self.store.names), tuple)

    def test_rows_in_order_of_keys(self):
        self.assertEqual(self.store["stock"], [(1, 9, 20), (1, 10, 4), (2, 7, 5)])
        self.assertEqual(self.store["goods"], [(3, -1), (6, 9), (3, 10)])
        self.assertEqual(self.store["notes"], [])

    def test_rows_in_any_order(self):
        keys = [-(10 ** 20), -100, -99, -10, -9, 0, 1, 2, 9, 10, 99, 100, 10 ** 20]
        rows = [(-n, n) for n in keys]
        dice = dice_of(31)
        for _ in range(10):
            mixed = list(rows)
            dice.shuffle(mixed)
            self.assertEqual(Store([GOODS], {"goods": mixed})["goods"], rows)
            self.assertEqual(Store([GOODS], {"goods": tuple(mixed)}), Store([GOODS], {"goods": rows}))

    def test_order_of_the_dict_means_nothing(self):
        turned = {name: ROWS[name][::-1] for name in reversed(list(ROWS))}
        self.assertEqual(Store([GOODS, STOCK, NOTES], turned), self.store)

    def test_no_rows(self):
        for store in (Store([GOODS, STOCK]), Store([GOODS, STOCK], None), Store([GOODS, STOCK], {}),
                      Store([GOODS, STOCK], {"goods": []}), Store([GOODS, STOCK], rows={"stock": ()})):
            self.assertEqual((store["goods"], store["stock"], len(store)), ([], [], 0))
            self.assertEqual(store, Store([STOCK, GOODS]))
        empty = Store([])
        self.assertEqual((empty.tables, empty.names, len(empty)), ((), (), 0))

    def test_table_of(self):
        for table in (STOCK, NOTES, GOODS):
            self.assertEqual(self.store.table_of(table.name), table)

    def test_row_at(self):
        self.assertEqual(self.store.row_at("stock", (1, 9)), (1, 9, 20))
        self.assertEqual(self.store.row_at("goods", (-1,)), (3, -1))
        for name, key in (("stock", (9, 1)), ("stock", (1,)), ("stock", (1, 9, 20)), ("goods", (3,)),
                          ("goods", ()), ("notes", (1,))):
            self.assertIsNone(self.store.row_at(name, key))

    def test_unknown_tables(self):
        for name in ("", "good", "goods1", "GOODS", "stock.code"):
            for method in (self.store.table_of, lambda n: self.store[n],
                           lambda n: self.store.row_at(n, (1,))):
                with self.assertRaises(NoTable) as caught:
                    method(name)
                self.assertEqual(caught.exception.name, name)

    def test_places(self):
        for table in self.store.tables:
            for row in self.store[table.name]:
                self.assertIs((table.name, table.key_of(row)) in self.store, True)
        for place in (("stock", (9, 1)), ("stock", (1,)), ("goods", (3,)), ("notes", (1,)),
                      ("other", (9,)), ("", ()), ("stock", (1, 9, 20))):
            self.assertIs(place in self.store, False)

    def test_number_of_rows(self):
        self.assertEqual(len(self.store), 6)
        self.assertEqual(len(Store([GOODS], {"goods": [(1, 1)]})), 1)

    def test_equality(self):
        others = [Store([STOCK, GOODS], ROWS), Store([STOCK, NOTES, GOODS]),
                  Store([STOCK, NOTES, GOODS], {**ROWS, "notes": [(1,)]}),
                  Store([STOCK, NOTES, GOODS], {**ROWS, "goods": [(3, 10), (6, 9), (4, -1)]}),
                  Store([STOCK, NOTES, GOODS], {**ROWS, "goods": [(3, 10), (6, 9)]}),
                  Store([STOCK, NOTES, Table("goods", ["kind", "code"], ["code", "kind"])], ROWS),
                  None, "stock", ROWS, self.store.tables]
        for other in others:
            self.assertIs(self.store == other, False)
            self.assertIs(self.store != other, True)
        self.assertIs(self.store == Store((NOTES, STOCK, GOODS), ROWS), True)
        self.assertIs(self.store != Store((NOTES, STOCK, GOODS), ROWS), False)

    def test_same_rows_of_other_tables(self):
        other = Table("goods", ["sort", "code"], ["code"])
        for rows in ({}, {"goods": [(1, 2)]}):
            self.assertIs(Store([GOODS], rows) == Store([other], rows), False)
            self.assertIs(Store([GOODS], rows) != Store([other], rows), True)

    def test_not_iterated_over(self):
        with self.assertRaises(TypeError):
            iter(self.store)

    def test_lists_are_copied(self):
        tables = [STOCK, GOODS]
        rows = {"stock": [(2, 7, 5), (1, 10, 4)], "goods": [(3, 10)]}
        store = Store(tables, rows)
        self.assertEqual(tables, [STOCK, GOODS])
        self.assertEqual(rows, {"stock": [(2, 7, 5), (1, 10, 4)], "goods": [(3, 10)]})
        before = content(store)
        tables.append(NOTES)
        rows["stock"].append((9, 9, 9))
        rows["goods"][0] = (4, 10)
        rows["notes"] = [(1,)]
        self.assertEqual(content(store), before)
        self.assertEqual((len(store), store.row_at("goods", (10,))), (3, (3, 10)))

    def test_returned_lists_belong_to_the_caller(self):
        before = content(self.store)
        found = self.store["goods"]
        found.append((9, 9))
        found[0] = None
        self.store["notes"].append((1,))
        self.assertEqual(content(self.store)[0][3], [(3, -1), (6, 9), (3, 10)])
        self.assertEqual(content(self.store)[1:], before[1:])


class Faults(unittest.TestCase):
    def refused(self, kind, told, *arguments):
        with self.assertRaises(kind) as caught:
            Store(*arguments)
        self.assertEqual(vars(caught.exception), told)

    def test_tables_of_one_name(self):
        other = Table("goods", ["x"], ["x"])
        self.refused(DuplicateTable, {"name": "goods"}, [GOODS, GOODS])
        self.refused(DuplicateTable, {"name": "stock"}, [GOODS, STOCK, NOTES, STOCK, other])
        self.refused(DuplicateTable, {"name": "goods"}, [STOCK, GOODS, other, STOCK],
                     {"none": [], "goods": [()]})

    def test_rows_of_no_table(self):
        self.refused(NoTable, {"name": "aa"}, [GOODS], {"b": [], "aa": [], "goods": [], "ab": []})
        self.refused(NoTable, {"name": "zz"}, [GOODS], {"zz": [], "goods": [()]})
        self.refused(NoTable, {"name": ""}, [], {"x": [], "": [(1,)]})

    def test_rows_that_do_not_fit(self):
        for row in ((), (1,), (1, 2, 3)):
            self.refused(InvalidRow, {"name": "goods", "row": row}, [GOODS], {"goods": [(1, 2), row]})
        self.refused(InvalidRow, {"name": "goods", "row": (1,)}, [STOCK, GOODS],
                     {"stock": [()], "goods": [(1, 2), (1,), (3, 2), ()]})

    def test_rows_with_one_key(self):
        self.refused(DuplicateKey, {"name": "goods", "key": (2,)}, [GOODS],
                     {"goods": [(1, 2), (5, 3), (7, 2), (5, 3), ()]})
        self.refused(DuplicateKey, {"name": "stock", "key": (1, 2)}, [STOCK],
                     {"stock": [(1, 2, 3), (2, 1, 3), (1, 2, 3)]})
        self.refused(DuplicateKey, {"name": "goods", "key": (2,)}, [STOCK, GOODS],
                     {"stock": [()], "goods": [(1, 2), (1, 2)]})
        self.refused(InvalidRow, {"name": "goods", "row": ()}, [STOCK, GOODS],
                     {"stock": [()], "goods": [(1, 2), (), (1, 2)]})


class Sums(unittest.TestCase):
    def setUp(self):
        self.store = Store([STOCK, NOTES, GOODS], ROWS)

    def refused(self, kind, told, changes):
        before = content(self.store)
        with self.assertRaises(kind) as caught:
            self.store + Edit(changes)
        self.assertEqual(vars(caught.exception), told)
        self.assertEqual(content(self.store), before)

    def test_each_kind_of_change(self):
        edit = Edit([("goods", (9,), (6, 9), None), ("goods", (-5,), None, (0, -5)),
                     ("goods", (10,), (3, 10), (4, 10)), ("notes", (1,), None, (1,)),
                     ("stock", (1, 9), (1, 9, 20), (1, 9, 21))])
        before = content(self.store)
        after = self.store + edit
        self.assertEqual(after["goods"], [(0, -5), (3, -1), (4, 10)])
        self.assertEqual(after["notes"], [(1,)])
        self.assertEqual(after["stock"], [(1, 9, 21), (1, 10, 4), (2, 7, 5)])
        self.assertEqual((after.tables, after.names), (self.store.tables, self.store.names))
        self.assertEqual(len(after), 7)
        self.assertIn(("goods", (-5,)), after)
        self.assertNotIn(("goods", (9,)), after)
        self.assertEqual(content(self.store), before)
        self.assertEqual(after, Store([GOODS, NOTES, STOCK], {n: after[n] for n in after.names}))
        self.assertEqual(content(after + -edit), before)
        self.assertEqual(after + -edit, self.store)

    def test_empty_edit(self):
        self.assertEqual(self.store + Edit(), self.store)
        self.assertEqual(content(self.store + Edit()), content(self.store))

    def test_faults_of_one_change(self):
        self.refused(NoTable, {"name": "zz"}, [("zz", (1,), None, (1,))])
        for after in ((), (1,), (1, 2, 3), (1, 8)):
            self.refused(InvalidRow, {"name": "goods", "row": after}, [("goods", (7,), None, after)])
        self.refused(InvalidRow, {"name": "stock", "row": (9, 1, 20)},
                     [("stock", (1, 9), (1, 9, 20), (9, 1, 20))])
        self.refused(InvalidRow, {"name": "goods", "row": (1, 2)}, [("goods", (2, 2), None, (1, 2))])
        for change in (("goods", (9,), None, (6, 9)), ("goods", (9,), (5, 9), (7, 9)),
                       ("goods", (9,), (5, 9), None), ("goods", (8,), (5, 8), None),
                       ("goods", (8,), (5, 8), (6, 8)), ("notes", (), (5,), None),
                       ("goods", (9, 6), (6, 9), None)):
            self.refused(Misfit, {"place": change[:2]}, [change])

    def test_order_of_faults(self):
        misfit = ("goods", (9,), (5, 9), None)
        invalid = ("goods", (10,), (3, 10), (4, 11))
        both = ("goods", (2,), (5, 2), (4, 11))
        unknown = ("hats", (1,), None, (1,))
        late = ("stock", (1, 1), None, (1, 1))
        self.refused(Misfit, {"place": ("goods", (9,))}, [unknown, invalid, late, misfit])
        self.refused(InvalidRow, {"name": "goods", "row": (4, 11)}, [unknown, both, late, misfit])
        self.refused(InvalidRow, {"name": "goods", "row": (4, 11)}, [late, unknown, invalid])
        self.refused(NoTable, {"name": "hats"}, [late, unknown])
        self.refused(InvalidRow, {"name": "stock", "row": (1, 1)}, [late])

    def test_difference(self):
        other = Store([GOODS, STOCK, NOTES],
                      {"goods": [(3, 10), (6, 9), (1, 1)], "stock": [(1, 9, 2)], "notes": [(4,)]})
        edit = self.store - other
        self.assertEqual(edit.changes, (
            ("goods", (-1,), None, (3, -1)), ("goods", (1,), (1, 1), None), ("notes", (4,), (4,), None),
            ("stock", (1, 9), (1, 9, 2), (1, 9, 20)), ("stock", (1, 10), None, (1, 10, 4)),
            ("stock", (2, 7), None, (2, 7, 5))))
        self.assertIsInstance(edit, Edit)
        self.assertEqual(other + edit, self.store)
        self.assertEqual(other - self.store, -edit)
        self.assertEqual(self.store - self.store, Edit())

    def test_difference_of_unlike_stores(self):
        other = Table("goods", ["kind", "code"], ["kind"])
        for first, second, name in (
                ([GOODS], [other], "goods"), ([GOODS, NOTES], [GOODS], "notes"),
                ([GOODS], [GOODS, NOTES], "notes"), ([GOODS], [STOCK], "goods"),
                ([STOCK], [GOODS], "goods"), ([GOODS, NOTES], [other], "goods"),
                ([NOTES, STOCK], [STOCK, Table("notes", ["m"], ["m"])], "notes"), ([], [STOCK], "stock"),
                ([], [Table(f"t{n}", ["k"], ["k"]) for n in (5, 9, 10, 7, 2, 30, 4)], "t10")):
            with self.assertRaises(Unlike) as caught:
                Store(first) - Store(second)
            self.assertEqual(caught.exception.name, name)

    def test_differences_of_many_stores(self):
        dice = dice_of(32)
        for _ in range(200):
            tables = [some_table(dice, name) for name in "abc"]
            first = some_store(dice, tables)
            second = some_store(dice, tables)
            edit = first - second
            self.assertEqual(content(second + edit), content(first))
            self.assertEqual(second + edit, first)
            places = {(t.name, t.key_of(row)) for store in (first, second) for t in tables
                      for row in store[t.name]}
            self.assertEqual([change[:2] for change in edit], sorted(
                (name, key) for name, key in places
                if first.row_at(name, key) != second.row_at(name, key)))


class Histories(unittest.TestCase):
    def test_long_history(self):
        dice = dice_of(33)
        tables = [some_table(dice, name) for name in "abc"]
        stores = [Store(tables, {table.name: some_rows(dice, table, 8) for table in tables})]
        edits = []
        for _ in range(300):
            edits.append(self.some_edit(dice, stores[-1], tables))
            stores.append(stores[-1] + edits[-1])
        kept = [content(store) for store in stores]
        now = stores[-1]
        for at in reversed(range(len(edits))):
            now = now + -edits[at]
            self.assertEqual(content(now), kept[at])
            self.assertEqual(now, stores[at])
        self.assertEqual([content(store) for store in stores], kept)
        total = Edit()
        for edit in edits:
            total = total + edit
        self.assertEqual(stores[0] + total, stores[-1])
        self.assertEqual(stores[-1] - stores[0], total)

    def some_edit(self, dice, store, tables):
        changes = {}
        for _ in range(dice.randint(0, 3)):
            table = dice.choice(tables)
            after = tuple(dice.randint(-1, 3) for _ in table.columns)
            key = table.key_of(after)
            before = store.row_at(table.name, key)
            after = None if before == after else after
            changes[(table.name, key)] = (table.name, key, before, after)
        return Edit(list(changes.values()))


if __name__ == "__main__":
    unittest.main()
