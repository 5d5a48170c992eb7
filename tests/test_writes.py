"""Points 2, 23, 24, 25 and 26 and the section shownwrites/writes.py."""

import itertools
import unittest

from shownwrites import refusals
from shownwrites.bodies import Body
from shownwrites.edits import Edit
from shownwrites.errors import NoTable, NotShown, ShownError, Unlike
from shownwrites.refusals import (AlreadyShown, NoDifference, NoName, OutOfRegion, WrongKind,
                                  WrongLength)
from shownwrites.stores import Store
from shownwrites.sums import Sums
from shownwrites.tables import Table
from shownwrites.views import View
from shownwrites.writes import Add, Change, Clear, Drop, Total, Write, is_meaning, wanted
from tests.reference import (dice_of, meaning_of, refusal_of, some_edit, some_shown_view, some_store,
                             some_write, wanted_of, write_by)

BIG = 10 ** 40
STOCK = Table("stock", ("shop", "code", "amount"), ("shop", "code"))
GOODS = Table("goods", ("code", "kind"), ("code",))
MORE = Table("more", ("k", "x"), ("k",))
LINK = [("stock.code", "goods.code")]
BODY = Body([STOCK, GOODS], LINK)
BOUND = Body([STOCK, GOODS], LINK, [("stock.amount", ">", 0), ("stock.shop", "!=", 5), ("goods.kind", "=", 3)])
STORE = Store([STOCK, GOODS, MORE], {"stock": [(1, 7, 20), (1, 8, 4), (2, 7, 5), (4, 6, 1)],
                                     "goods": [(7, 3), (8, 3), (9, 6)], "more": [(1, 1)]})
SHOWN = [("shop", "stock.shop"), ("code", "stock.code"), ("amount", "stock.amount"), ("kind", "goods.kind")]
LOTS = View(BODY, SHOWN)
FEW = View(BOUND, SHOWN)
PAIRS = View(BODY, [("code", "goods.code"), ("shop", "stock.shop")])
KINDS = Sums(BODY, [("kind", "goods.kind")], [("amount", "stock.amount")])
CODES = Sums(BODY, [("kind", "goods.kind"), ("code", "stock.code")], [("amount", "stock.amount")])
SHOPS = Sums(BODY, [("shop", "stock.shop")], [("amount", "stock.amount"), ("kind", "goods.kind")])
ALL = Sums(BODY, [], [("kind", "goods.kind"), ("amount", "stock.amount")])
MAKERS = [lambda: Drop((1, 2)), lambda: Add((1, 2)), lambda: Change((1, 2), "a", 3),
          lambda: Total((1, 2), "a", 3), lambda: Clear((1, 2))]


class Writes(unittest.TestCase):
    def test_kinds_and_attributes(self):
        told = [("drop", {"row": (1, 2)}), ("add", {"row": (1, 2)}),
                ("change", {"row": (1, 2), "name": "a", "value": 3}),
                ("total", {"group": (1, 2), "name": "a", "value": 3}), ("clear", {"group": (1, 2)})]
        for maker, (kind, fields) in zip(MAKERS, told):
            write = maker()
            self.assertIsInstance(write, Write)
            self.assertEqual(write.kind, kind)
            for field, value in fields.items():
                self.assertEqual(getattr(write, field), value)

    def test_rows_and_groups_are_kept_as_tuples(self):
        row = [1, 2]
        writes = [Drop(row), Add(row), Change(row, "a", 3), Total(row, "a", 3), Clear(row)]
        row.append(7)
        for write, maker in zip(writes, MAKERS):
            kept = write.group if write.kind in ("total", "clear") else write.row
            self.assertEqual(kept, (1, 2))
            self.assertIs(type(kept), tuple)
            self.assertEqual(write, maker())
        self.assertEqual(row, [1, 2, 7])

    def test_equal(self):
        for one, two in itertools.product(enumerate(MAKERS), repeat=2):
            self.assertEqual(one[1]() == two[1](), one[0] == two[0])
            self.assertEqual(one[1]() != two[1](), one[0] != two[0])

    def test_other_arguments(self):
        for other in (Change((1, 2), "a", 4), Change((1, 2), "b", 3), Change((1,), "a", 3),
                      Change((2, 1), "a", 3)):
            self.assertNotEqual(Change((1, 2), "a", 3), other)
        for other in (Total((1, 2), "a", 4), Total((1, 2), "b", 3), Total((1,), "a", 3), Total((), "a", 3)):
            self.assertNotEqual(Total((1, 2), "a", 3), other)
        for kind in (Drop, Add, Clear):
            self.assertEqual(kind((BIG,)), kind([BIG]))
            self.assertEqual(kind(()), kind([]))
            for row in ((), (2, 1), (1, 2, 3), (1,)):
                self.assertNotEqual(kind((1, 2)), kind(row))

    def test_not_equal_to_other_values(self):
        for maker in MAKERS:
            for other in (None, (1, 2), "drop", 1):
                self.assertFalse(maker() == other)


class Wanted(unittest.TestCase):
    def test_views(self):
        self.assertEqual(LOTS(STORE), [(1, 7, 20, 3), (1, 8, 4, 3), (2, 7, 5, 3)])
        self.assertEqual(wanted(LOTS, STORE, Drop((1, 8, 4, 3))), [(1, 7, 20, 3), (2, 7, 5, 3)])
        self.assertEqual(wanted(LOTS, STORE, Add((1, 7, 21, 3))),
                         [(1, 7, 20, 3), (1, 7, 21, 3), (1, 8, 4, 3), (2, 7, 5, 3)])
        self.assertEqual(wanted(LOTS, STORE, Add((-BIG, BIG, 0, 0)))[0], (-BIG, BIG, 0, 0))
        self.assertEqual(wanted(LOTS, STORE, Change((1, 7, 20, 3), "shop", 3)),
                         [(1, 8, 4, 3), (2, 7, 5, 3), (3, 7, 20, 3)])
        self.assertEqual(wanted(LOTS, STORE, Change((1, 7, 20, 3), "kind", -BIG)),
                         [(1, 7, 20, -BIG), (1, 8, 4, 3), (2, 7, 5, 3)])
        self.assertEqual(wanted(PAIRS, STORE, Change((8, 1), "code", 6)), [(6, 1), (7, 1), (7, 2)])

    def test_sums(self):
        self.assertEqual(KINDS(STORE), [((3,), 3, (29,))])
        self.assertEqual(wanted(KINDS, STORE, Clear((3,))), [])
        self.assertEqual(wanted(KINDS, STORE, Total((3,), "amount", -BIG)), [((3,), 3, (-BIG,))])
        self.assertEqual(SHOPS(STORE), [((1,), 2, (24, 6)), ((2,), 1, (5, 3))])
        self.assertEqual(wanted(SHOPS, STORE, Clear((1,))), [((2,), 1, (5, 3))])
        self.assertEqual(wanted(SHOPS, STORE, Total((1,), "kind", 24)),
                         [((1,), 2, (24, 24)), ((2,), 1, (5, 3))])
        self.assertEqual(wanted(SHOPS, STORE, Total((2,), "amount", 0)),
                         [((1,), 2, (24, 6)), ((2,), 1, (0, 3))])
        self.assertEqual(wanted(ALL, STORE, Total((), "kind", 8)), [((), 3, (8, 29))])
        self.assertEqual(wanted(ALL, STORE, Clear(())), [])

    def test_rows_given_as_lists(self):
        self.assertEqual(wanted(LOTS, STORE, Drop([1, 8, 4, 3])), [(1, 7, 20, 3), (2, 7, 5, 3)])
        self.assertEqual(wanted(PAIRS, STORE, Add([9, 9])), [(7, 1), (7, 2), (8, 1), (9, 9)])
        self.assertEqual(wanted(KINDS, STORE, Clear([3])), [])

    def test_value_may_be_any_number_for_a_total(self):
        body = Body([STOCK], [], [("stock.amount", ">", 0)])
        sums = Sums(body, [("shop", "stock.shop")], [("amount", "stock.amount")])
        self.assertEqual(wanted(sums, STORE, Total((2,), "amount", -7))[1], ((2,), 1, (-7,)))

    def test_the_list_belongs_to_the_caller(self):
        for shown, write in ((LOTS, Drop((1, 8, 4, 3))), (SHOPS, Clear((2,)))):
            rows = wanted(shown, STORE, write)
            expected = list(rows)
            rows.append(None)
            rows[0] = None
            self.assertEqual(wanted(shown, STORE, write), expected)


class Refusals(unittest.TestCase):
    def check(self, error, shown, write, store=STORE):
        for call in (lambda: wanted(shown, store, write),
                     lambda: is_meaning(shown, store, write, Edit()),
                     lambda: is_meaning(shown, store, write, Edit([("none", (1,), None, (1,))]))):
            with self.assertRaises(ShownError) as caught:
                call()
            self.assertIs(type(caught.exception), type(error))
            self.assertEqual(vars(caught.exception), vars(error))

    def test_wrong_kind(self):
        for write in (Drop((3,)), Add((3,)), Change((3,), "amount", 3), Drop(()), Change((9,), "x", 3)):
            self.check(WrongKind(write.kind), KINDS, write)
        for write in (Total((1, 8, 4, 3), "amount", 4), Clear((1, 8, 4, 3)), Clear(()), Total((), "x", 1)):
            self.check(WrongKind(write.kind), LOTS, write)

    def test_wrong_length(self):
        for row in ((), (1, 8, 4), (1, 8, 4, 3, 3), (0, 0, 0, 0, 0)):
            for write in (Drop(row), Add(row), Change(row, "amount", 5), Change(row, "none", 4)):
                self.check(WrongLength(row), LOTS, write)
                self.check(WrongLength(row), FEW, write)
        for group in ((), (3, 3), (9, 9)):
            for write in (Clear(group), Total(group, "amount", 5), Total(group, "none", 5)):
                self.check(WrongLength(group), KINDS, write)
        self.check(WrongLength((3,)), ALL, Clear((3,)))

    def test_not_shown(self):
        for row in ((1, 8, 4, 4), (4, 6, 1, 3), (2, 7, 20, 3)):
            for write in (Drop(row), Change(row, "amount", 7), Change(row, "none", 7),
                          Change(row, "amount", row[2]), Change(row, "shop", 1)):
                self.check(NotShown(row), LOTS, write)
        self.check(NotShown((1, 7, 3, 3)), FEW, Change((1, 7, 3, 3), "amount", 0))
        for write in (Clear((6,)), Total((6,), "amount", 7), Total((6,), "none", 7)):
            self.check(NotShown((6,)), KINDS, write)
        for write in (Clear((3, 9)), Total((3, 9), "amount", 0)):
            self.check(NotShown((3, 9)), CODES, write)
        empty = Store([STOCK, GOODS])
        self.check(NotShown(()), ALL, Clear(()), empty)
        self.check(NotShown(()), ALL, Total((), "count", 0), empty)

    def test_no_name(self):
        for name in ("", "stock.amount", "Shop", "count", "stock"):
            self.check(NoName(name), LOTS, Change((1, 8, 4, 3), name, 4))
            self.check(NoName(name), KINDS, Total((3,), name, 29))
            self.check(NoName(name), ALL, Total((), name, 3))
        self.check(NoName("kind"), KINDS, Total((3,), "kind", 3))
        self.check(NoName("amount"), PAIRS, Change((7, 1), "amount", 20))

    def test_out_of_region_of_an_add(self):
        self.check(OutOfRegion("shop", 5), FEW, Add((5, 7, 0, 4)))
        self.check(OutOfRegion("amount", 0), FEW, Add((4, 7, 0, 4)))
        self.check(OutOfRegion("kind", 4), FEW, Add((1, 7, 20, 4)))
        self.check(OutOfRegion("kind", -3), FEW, Add((1, 7, BIG, -3)))
        turned = View(BOUND, SHOWN[::-1])
        self.check(OutOfRegion("kind", 4), turned, Add((4, 0, 7, 5)))
        self.check(OutOfRegion("amount", 0), turned, Add((3, 0, 7, 5)))
        self.check(OutOfRegion("shop", 5), turned, Add((3, 1, 7, 5)))

    def test_out_of_region_of_a_change(self):
        row = (1, 8, 4, 3)
        self.check(OutOfRegion("shop", 5), FEW, Change(row, "shop", 5))
        self.check(OutOfRegion("amount", 0), FEW, Change(row, "amount", 0))
        for value in (-3, 2, 4, BIG):
            self.check(OutOfRegion("kind", value), FEW, Change(row, "kind", value))

    def test_no_difference(self):
        for name, value in zip(LOTS.names, (1, 8, 4, 3)):
            self.check(NoDifference(value), LOTS, Change((1, 8, 4, 3), name, value))
            # Of a fixed class: its one value is in its region, so nothing else is wrong.
            self.check(NoDifference(value), FEW, Change((1, 8, 4, 3), name, value))
        self.check(NoDifference(29), KINDS, Total((3,), "amount", 29))
        self.check(NoDifference(6), SHOPS, Total((1,), "kind", 6))
        self.check(NoDifference(24), SHOPS, Total((1,), "amount", 24))

    def test_already_shown(self):
        for row in LOTS(STORE):
            self.check(AlreadyShown(row), LOTS, Add(row))
            self.check(AlreadyShown(row), FEW, Add(row))
        self.check(AlreadyShown((7, 1)), PAIRS, Change((8, 1), "code", 7))
        self.check(AlreadyShown((7, 2)), PAIRS, Change((7, 1), "shop", 2))

    def test_store_without_the_tables(self):
        for shown, write in ((LOTS, Drop((1, 8, 4, 3))), (KINDS, Clear((3,)))):
            for call in (lambda: wanted(shown, Store([STOCK]), write),
                         lambda: is_meaning(shown, Store([STOCK]), write, Edit())):
                with self.assertRaises(NoTable):
                    call()
            with self.assertRaises(Unlike):
                wanted(shown, Store([STOCK, Table("goods", ["code"], ["code"])]), write)

    def test_against_the_words_of_the_document(self):
        dice = dice_of(81)
        told = {}
        for _ in range(400):
            shown = some_shown_view(dice)
            store = some_store(dice, shown.body.tables)
            for _ in range(8):
                write = some_write(dice, shown, store)
                expected = refusal_of(shown, store, write)
                if expected is None:
                    self.assertEqual(wanted(shown, store, write), wanted_of(shown, store, write))
                    kind = write.kind
                elif expected[0] == "NotShown":
                    kind = "NotShown"
                    self.check(NotShown(expected[1]), shown, write, store)
                else:
                    kind = expected[0]
                    self.check(getattr(refusals, kind)(*expected[1:]), shown, write, store)
                told[kind] = told.get(kind, 0) + 1
        for kind in ("drop", "add", "change", "total", "clear", "WrongLength", "NotShown", "NoName",
                     "OutOfRegion", "NoDifference", "AlreadyShown"):
            self.assertGreater(told[kind], 10, told)


def sets(name, key, before, after):
    """An edit of one change."""
    return Edit([(name, key, before, after)])


class Meanings(unittest.TestCase):
    def check(self, shown, write, good, bad, store=STORE):
        for edit in good:
            self.assertIs(is_meaning(shown, store, write, edit), True, edit.changes)
        for edit in bad:
            self.assertIs(is_meaning(shown, store, write, edit), False, edit.changes)
        self.assertIs(is_meaning(shown, store, write, Edit()), False)

    def test_drops(self):
        lot = ("stock", (1, 8), (1, 8, 4), None)
        item = ("goods", (8,), (8, 3), None)
        lone = ("stock", (4, 6), (4, 6, 1), None)
        unused = ("goods", (9,), (9, 6), None)
        good = [[lot], [item], [lot, item], [lot, lone], [item, unused, lone], [lot, unused]]
        bad = [[lone], [unused], [("stock", (1, 7), (1, 7, 20), None)],
               [lot, ("stock", (1, 7), (1, 7, 20), None)], [("goods", (7,), (7, 3), None)],
               [lot, ("more", (1,), (1, 1), None)], [("more", (1,), (1, 1), None)],
               [lot, ("goods", (5,), None, (5, 5))], [("stock", (1, 8), (1, 8, 4), (1, 8, 5))],
               [("goods", (8,), (8, 3), None), ("stock", (1, 8), (1, 8, 4), (1, 8, 5))]]
        self.check(LOTS, Drop((1, 8, 4, 3)), map(Edit, good), map(Edit, bad))
        self.check(PAIRS, Drop((8, 1)), map(Edit, good), map(Edit, bad))

    def test_drop_by_a_row_that_others_need(self):
        self.check(LOTS, Drop((2, 7, 5, 3)), [sets("stock", (2, 7), (2, 7, 5), None)],
                   [sets("goods", (7,), (7, 3), None)])

    def test_setting_a_row_away_is_no_drop(self):
        body = Body([STOCK], [], [("stock.amount", ">", 0)])
        view = View(body, [("shop", "stock.shop"), ("code", "stock.code")])
        self.check(view, Drop((1, 8)), [sets("stock", (1, 8), (1, 8, 4), None)],
                   [sets("stock", (1, 8), (1, 8, 4), (1, 8, 0))])

    def test_clears(self):
        two = [("stock", (1, 7), (1, 7, 20), None), ("stock", (2, 7), (2, 7, 5), None)]
        item = ("goods", (7,), (7, 3), None)
        other = ("stock", (1, 8), (1, 8, 4), None)
        good = [two, [item], [item, two[0]], [*two, item], [item, ("stock", (4, 6), (4, 6, 1), None)]]
        bad = [two[:1], two[1:], [*two, other], [other], [item, ("more", (1,), (1, 1), None)]]
        self.check(CODES, Clear((3, 7)), map(Edit, good), map(Edit, bad))
        self.check(KINDS, Clear((3,)), map(Edit, [[*two, other], [item, other]]), map(Edit, [two, [other]]))
        # The row of goods stands in derivations of both shops.
        self.check(SHOPS, Clear((2,)), map(Edit, [two[1:]]), map(Edit, [[item], [item, other]]))

    def test_adds(self):
        lot = ("stock", (3, 8), None, (3, 8, 1))
        self.check(LOTS, Add((3, 8, 1, 3)), [Edit([lot]), Edit([lot, ("goods", (5,), None, (5, 3))])], [
            Edit([("stock", (3, 8), None, (3, 8, 2))]), Edit([("stock", (3, 7), None, (3, 7, 1))]),
            Edit([lot, ("more", (2,), None, (2, 2))]), Edit([lot, ("goods", (9,), (9, 6), None)]),
            Edit([lot, ("goods", (6,), None, (6, 3))]), Edit([lot, ("goods", (9,), (9, 6), (9, 7))]),
            Edit([lot, ("stock", (4, 6), (4, 6, 1), (4, 6, 2))]), Edit([("stock", (8, 3), None, (8, 3, 1))])])
        self.check(LOTS, Add((4, 6, 1, 3)), [sets("goods", (6,), None, (6, 3))],
                   [sets("goods", (6,), None, (6, 4)), sets("stock", (4, 7), None, (4, 7, 1))])
        self.check(PAIRS, Add((5, 5)), [Edit([("stock", (5, 5), None, (5, 5, amount)),
                                              ("goods", (5,), None, (5, 0))]) for amount in (0, BIG)],
                   [sets("stock", (5, 5), None, (5, 5, 5))])

    def test_setting_a_row_is_no_add(self):
        body = Body([STOCK], [], [("stock.amount", ">", 4)])
        view = View(body, [("shop", "stock.shop"), ("code", "stock.code")])
        self.assertEqual(view(STORE), [(1, 7), (2, 7)])
        self.check(view, Add((1, 8)), [], [sets("stock", (1, 8), (1, 8, 4), (1, 8, 5))])
        self.check(view, Add((3, 8)), [sets("stock", (3, 8), None, (3, 8, 5))],
                   [sets("stock", (3, 8), None, (3, 8, 4))])

    def test_changes(self):
        row = (1, 8, 4, 3)
        one = ("stock", (1, 8), (1, 8, 4), (1, 8, 9))
        self.check(LOTS, Change(row, "amount", 9), [Edit([one])], [
            sets("stock", (1, 8), (1, 8, 4), (1, 8, 8)), sets("stock", (1, 7), (1, 7, 20), (1, 7, 9)),
            Edit([one, ("goods", (9,), (9, 6), (9, 7))]), Edit([one, ("goods", (5,), None, (5, 7))]),
            Edit([one, ("goods", (9,), (9, 6), None)]), Edit([("stock", (1, 8), (1, 8, 4), None)]),
            Edit([("stock", (1, 9), None, (1, 9, 9))]), Edit([("more", (1,), (1, 1), (1, 2))])])
        self.check(LOTS, Change(row, "kind", 6), [sets("goods", (8,), (8, 3), (8, 6))],
                   [sets("goods", (8,), (8, 3), (8, 7)), sets("goods", (9,), (9, 6), (9, 3))])
        self.check(LOTS, Change((2, 7, 5, 3), "kind", 6), [], [sets("goods", (7,), (7, 3), (7, 6))])
        # No key may change, also if nothing else stands in the way.
        self.check(LOTS, Change(row, "shop", 9), [], [
            sets("stock", (1, 8), (1, 8, 4), (9, 8, 4)),
            Edit([("stock", (1, 8), (1, 8, 4), None), ("stock", (9, 8), None, (9, 8, 4))])])

    def test_change_by_a_hidden_cell(self):
        links = Table("links", ("k", "to"), ("k",))
        ends = Table("ends", ("k", "x", "y"), ("k",))
        body = Body([links, ends], [("links.to", "ends.k")])
        view = View(body, [("k", "links.k"), ("x", "ends.x")])
        store = Store([links, ends], {"links": [(1, 1), (2, 1)], "ends": [(1, 5, 0), (2, 6, 0), (3, 6, 1)]})
        self.check(view, Change((1, 5), "x", 6), [
            sets("links", (1,), (1, 1), (1, 2)), sets("links", (1,), (1, 1), (1, 3))], [
            sets("ends", (1,), (1, 5, 0), (1, 6, 0)), sets("links", (2,), (2, 1), (2, 2)),
            sets("links", (1,), (1, 1), (1, 4))], store)
        self.check(view, Change((1, 5), "x", 7), [], [sets("ends", (1,), (1, 5, 0), (1, 7, 0))], store)
        # Setting two columns of the row is no meaning, though the right rows would be shown.
        lone = store + Edit([("links", (2,), (2, 1), None)])
        self.check(view, Change((1, 5), "x", 7), [sets("ends", (1,), (1, 5, 0), (1, 7, 0))], [
            sets("ends", (1,), (1, 5, 0), (1, 7, 1))], lone)

    def test_totals(self):
        self.check(KINDS, Total((3,), "amount", 30), [
            sets("stock", (1, 7), (1, 7, 20), (1, 7, 21)), sets("stock", (1, 8), (1, 8, 4), (1, 8, 5)),
            sets("stock", (2, 7), (2, 7, 5), (2, 7, 6))], [
            sets("stock", (1, 7), (1, 7, 20), (1, 7, 22)), sets("stock", (4, 6), (4, 6, 1), (4, 6, 2)),
            Edit([("stock", (1, 7), (1, 7, 20), (1, 7, 19)), ("stock", (1, 8), (1, 8, 4), (1, 8, 6))]),
            Edit([("stock", (1, 7), (1, 7, 20), None), ("stock", (1, 8), (1, 8, 4), (1, 8, 25))]),
            Edit([("stock", (3, 7), None, (3, 7, 1))]), Edit([("more", (1,), (1, 1), (1, 2))]),
            Edit([("stock", (1, 7), (1, 7, 20), (1, 7, 21)), ("more", (1,), (1, 1), (1, 2))])])
        self.check(ALL, Total((), "kind", 10), [sets("goods", (8,), (8, 3), (8, 4))],
                   [sets("goods", (7,), (7, 3), (7, 4))])
        self.check(ALL, Total((), "kind", 11), [sets("goods", (8,), (8, 3), (8, 5)),
                                                sets("goods", (7,), (7, 3), (7, 4))], [])
        self.check(SHOPS, Total((1,), "kind", 7), [sets("goods", (8,), (8, 3), (8, 4))],
                   [sets("goods", (7,), (7, 3), (7, 4))])

    def test_total_by_another_column(self):
        pay = Table("pay", ("k", "out", "sum"), ("k",))
        rates = Table("rates", ("k", "x"), ("k",))
        body = Body([pay, rates], [("pay.out", "rates.k")])
        sums = Sums(body, [], [("x", "rates.x")])
        store = Store([pay, rates], {"pay": [(1, 1, 0)], "rates": [(1, 5), (2, 6)]})
        self.check(sums, Total((), "x", 6), [sets("rates", (1,), (1, 5), (1, 6))],
                   [sets("pay", (1,), (1, 1, 0), (1, 2, 0))], store)

    def test_edits_that_do_not_fit(self):
        write = Drop((1, 8, 4, 3))
        self.check(LOTS, write, [], [
            sets("stock", (1, 8), (1, 8, 5), None), sets("stock", (1, 8), (1, 8), None),
            Edit([("stock", (1, 8), (1, 8, 4), None), ("goods", (5,), (5, 5), None)]),
            sets("none", (1, 8), (1, 8, 4), None), sets("Stock", (1, 8), (1, 8, 4), None)])
        lot = ("stock", (3, 8), None, (3, 8, 1))
        self.check(LOTS, Add((3, 8, 1, 3)), [], [
            sets("stock", (3, 9), None, (3, 8, 1)), sets("stock", (3, 8), None, (3, 8, 1, 1)),
            sets("stock", (3, 8), None, (3, 8)), sets("stock", (8, 3), None, (3, 8, 1)),
            Edit([lot, ("goods", (9,), None, (9, 5))]), Edit([lot, ("goods", (), None, ())]),
            Edit([lot, ("none", (9,), None, (9, 5))])])
        self.check(LOTS, Change((1, 8, 4, 3), "amount", 5), [], [
            sets("stock", (1, 8), (1, 8, 3), (1, 8, 5)), sets("stock", (1, 9), (1, 8, 4), (1, 8, 5)),
            sets("stock", (1, 8), (1, 8, 4), (1, 8, 5, 5)), sets("stock", (1, 8), (1, 8, 4), (1, 8)),
            sets("stock", (1, 8), (1, 8), (1, 8, 5)), sets("stock", (1, 8), (), (5,)),
            sets("none", (1, 8), (1, 8, 4), (1, 8, 5))])
        self.check(KINDS, Total((3,), "amount", 30), [], [
            sets("stock", (1, 8), (1, 8, 5), (1, 8, 6)), sets("none", (1, 8), (1, 8, 4), (1, 8, 5)),
            sets("stock", (1, 8), (1, 8, 4), (1, 8, 5, 5)), sets("stock", (4, 8), (4, 8, 4), (4, 8, 5))])

    def test_nothing_changes(self):
        edit = sets("stock", (1, 8), (1, 8, 4), None)
        before = Store(STORE.tables, {name: STORE[name] for name in STORE.names})
        is_meaning(LOTS, STORE, Drop((1, 8, 4, 3)), edit)
        self.assertEqual(STORE, before)
        self.assertEqual(edit.changes, (("stock", (1, 8), (1, 8, 4), None),))

    def test_against_the_words_of_the_document(self):
        dice = dice_of(82)
        told = {}
        for _ in range(700):
            shown = some_shown_view(dice)
            store = some_store(dice, [*shown.body.tables, MORE], 4)
            edits = [some_edit(dice, store) for _ in range(8)]
            writes = [some_write(dice, shown, store), *[write_by(shown, store, edit) for edit in edits]]
            for write in writes:
                if write is None or refusal_of(shown, store, write) is not None:
                    continue
                for edit in edits:
                    expected = meaning_of(shown, store, write, edit)
                    self.assertIs(is_meaning(shown, store, write, edit), expected)
                    told[write.kind, expected] = told.get((write.kind, expected), 0) + 1
        for kind in ("drop", "add", "change", "total", "clear"):
            self.assertGreater(told.get((kind, True), 0), 5, told)
            self.assertGreater(told.get((kind, False), 0), 100, told)


if __name__ == "__main__":
    unittest.main()
