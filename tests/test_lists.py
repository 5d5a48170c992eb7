"""Point 2 in all modules: lists that are passed are copied, lists that are returned belong to the caller."""

import copy
import unittest

from shownwrites.adding import adds
from shownwrites.bodies import Body
from shownwrites.changeverdicts import change_verdict
from shownwrites.changing import changes, totals
from shownwrites.closures import closure, split, steps
from shownwrites.desks import Desk
from shownwrites.dropping import clears, drops
from shownwrites.edits import Edit
from shownwrites.exchange import exchangeable, inside_case, inside_sets
from shownwrites.fewest import fewest, view_of
from shownwrites.regions import Region
from shownwrites.rows import derivations, deriving
from shownwrites.rules import Rules
from shownwrites.stores import Store
from shownwrites.sums import Sums
from shownwrites.tables import Table
from shownwrites.texts import Book
from shownwrites.verdicts import add_verdict, clear_verdict, drop_verdict, total_verdict
from shownwrites.views import View
from shownwrites.writes import Add, wanted
from tests.reference import contents_of

STOCK = Table("stock", ("shop", "code", "amount"), ("shop", "code"))
GOODS = Table("goods", ("code", "kind"), ("code",))
BODY = Body([STOCK, GOODS], [("stock.code", "goods.code")])
STORE = Store([STOCK, GOODS], {"stock": [(1, 7, 20), (1, 8, 4), (2, 7, 5)], "goods": [(7, 3), (8, 3), (9, 6)]})
PAIRS = View(BODY, [("shop", "stock.shop"), ("code", "stock.code")])
LINKED = View(BODY, [("shop", "stock.shop"), ("code", "stock.code"), ("kind", "goods.kind")])
KINDS = Sums(BODY, [("kind", "goods.kind")], [("amount", "stock.amount")])
RULES = Rules(PAIRS, drop=["stock"])
BOOK = Book([STOCK, GOODS], [("pairs", PAIRS), ("kinds", KINDS)], [("pairs", RULES)])
DESK = Desk(BOOK, STORE)
NAMES = ["stock", "goods"]


class Returned(unittest.TestCase):
    def test_lists(self):
        wish = [("goods.kind", ["goods.kind"])]
        for call in (lambda: Region(3).members(4), lambda: STORE["stock"], lambda: steps(BODY, ["stock.code"]),
                     lambda: derivations(BODY, STORE), lambda: deriving(BODY, STORE, "goods", (7, 3)),
                     lambda: PAIRS(STORE), lambda: PAIRS.rows(STORE), lambda: KINDS(STORE), lambda: KINDS.rows(STORE),
                     lambda: KINDS.origins(STORE, (3,)), lambda: wanted(PAIRS, STORE, Add((5, 5))),
                     lambda: drops(PAIRS, STORE, (1, 8), NAMES), lambda: clears(KINDS, STORE, (3,), NAMES),
                     lambda: adds(PAIRS, STORE, (2, 8), NAMES).told,
                     lambda: changes(LINKED, STORE, (1, 8, 3), "kind", 6, ["goods.kind"]),
                     lambda: totals(KINDS, STORE, (3,), "amount", 30), lambda: exchangeable(BODY, ["stock.shop"]),
                     lambda: inside_sets(BODY, ["stock.shop"]), lambda: drop_verdict(PAIRS, NAMES).some.meanings,
                     lambda: drop_verdict(PAIRS, NAMES).several.meanings, lambda: add_verdict(PAIRS, NAMES).none.meanings,
                     lambda: add_verdict(PAIRS, NAMES).several.meanings, lambda: clear_verdict(KINDS, NAMES).some.meanings,
                     lambda: total_verdict(KINDS, "amount").some.meanings,
                     lambda: total_verdict(KINDS, "amount").several.meanings,
                     lambda: change_verdict(LINKED, "kind", ["goods.kind"]).some.meanings,
                     lambda: fewest(BODY, ["goods.kind"], add=NAMES, change=wish).papers,
                     lambda: fewest(BODY, ["stock.shop", "stock.code"], add=NAMES).papers[-1][1].meanings,
                     lambda: DESK.rows_of("kinds"), lambda: DESK.sheet("pairs").listed()):
            found = call()
            self.assertIs(type(found), list)
            expected = contents_of(found)
            found.append("more")
            found[0:1] = []
            self.assertEqual(contents_of(call()), expected)

    def test_lists_of_one_object_are_its_own(self):
        verdict = drop_verdict(PAIRS, NAMES)
        verdict.some.meanings.clear()
        self.assertEqual(len(verdict.several.meanings), 2)
        found = fewest(BODY, ["stock.shop", "stock.code"], add=NAMES)
        found.papers[-1][1].meanings.clear()
        self.assertEqual(len(fewest(BODY, ["stock.shop", "stock.code"], add=NAMES).papers[-1][1].meanings), 2)


class Passed(unittest.TestCase):
    def spoil(self, given):
        """Change all lists and dicts that are held in the value."""
        for one in given.values() if isinstance(given, dict) else given:
            if isinstance(one, (list, tuple, dict)):
                self.spoil(one)
        if isinstance(given, (list, dict)):
            given.clear()

    def test_objects_copy_their_lists(self):
        for make, given in (
                (lambda some: Region(0, 9, some[0]), [[4, 2]]),
                (lambda some: Table("t", some[0], some[1]), [["a", "b"], ["b"]]),
                (lambda some: Edit(some[0]), [[("t", (1,), None, (1, 2))]]),
                (lambda some: Store(some[0], some[1]), [[GOODS], {"goods": [(1, 2), (0, 2)]}]),
                (lambda some: Body(some[0], some[1], some[2]),
                 [[STOCK, GOODS], [("stock.code", "goods.code")], [("goods.kind", ">", 2)]]),
                (lambda some: View(BODY, some[0]), [[("shop", "stock.shop"), ("code", "stock.code")]]),
                (lambda some: Sums(BODY, some[0], some[1]), [[("kind", "goods.kind")], [("amount", "stock.amount")]]),
                (lambda some: Rules(PAIRS, drop=some[0], add=some[1], defaults=some[2], change=some[3]),
                 [["stock"], ["stock"], [("stock.amount", 1)], [("shop", "goods.kind", "least")]]),
                (lambda some: Rules(KINDS, drop=some[0], total=some[1]), [["stock"], [("amount", "least key")]]),
                (lambda some: Book(some[0], some[1], some[2]), [[STOCK, GOODS], [("pairs", PAIRS)], [("pairs", RULES)]]),
                (lambda some: view_of(BODY, some[0]), [["stock.code", "stock.shop"]]),
                (lambda some: Add(some[0]), [[1, 2]])):
            expected = contents_of(make(tuple(given)))
            made = make(given)
            self.spoil(given)
            self.assertEqual(contents_of(made), expected)

    def test_functions_leave_lists_as_they_are(self):
        cells = ["goods.kind", "stock.amount", "goods.kind"]
        change = [("goods.kind", cells)]
        turned = ["goods", "stock", "goods"]
        columns = ["stock.shop", "goods.code", "stock.code"]
        for call in (lambda: closure(BODY, columns, using=turned), lambda: steps(BODY, columns), lambda: split(BODY, columns),
                     lambda: drops(PAIRS, STORE, (1, 8), turned), lambda: clears(KINDS, STORE, (3,), turned),
                     lambda: adds(PAIRS, STORE, (2, 8), turned), lambda: exchangeable(BODY, columns),
                     lambda: changes(LINKED, STORE, (1, 8, 3), "kind", 6, cells), lambda: inside_sets(BODY, columns),
                     lambda: inside_case(BODY, columns, turned), lambda: drop_verdict(PAIRS, turned),
                     lambda: add_verdict(PAIRS, turned), lambda: clear_verdict(KINDS, turned),
                     lambda: change_verdict(LINKED, "kind", cells),
                     lambda: fewest(BODY, ["goods.kind", "goods.code"], add=turned, change=change)):
            before = copy.deepcopy((cells, change, turned, columns))
            call()
            self.assertEqual((cells, change, turned, columns), before)


if __name__ == "__main__":
    unittest.main()
