"""Points 2, 32, 37 and 42 to 45 and the section shownwrites/changeverdicts.py."""

import itertools
import unittest

from shownwrites.bodies import Body
from shownwrites.changeverdicts import change_verdict
from shownwrites.errors import KeyCell, NoColumn
from shownwrites.refusals import NoName
from shownwrites.tables import Table
from shownwrites.views import View
from shownwrites.writes import Change
from tests.reference import (dice_of, linked_views, plain_tables, refusal_of, some_body, some_shown, some_store,
                             sparse_view)
from tests.slow_verdicts import answers_42, answers_of, cells_of, check_verdict, hidden_of, least_of

ORDERS = Table("orders", ["id", "buyer"], ["id"])
BUYERS = Table("buyers", ["id", "city"], ["id"])
BODY = Body([ORDERS, BUYERS], [("orders.buyer", "buyers.id")])
VIEW = View(BODY, [("id", "orders.id"), ("city", "buyers.city")])
BOTH = ["buyers.city", "orders.buyer"]
YES, NO = True, False


def drawn_view(dice, number):
    """A view with at most three hidden open classes."""
    if number % 3 == 0:
        return linked_views()[number // 3 % len(linked_views())]
    while True:
        if number % 3 == 1:
            view = sparse_view(dice)
        else:
            body = some_body(dice, 4)
            view = View(body, some_shown(dice, body))
        if len(hidden_of(view)) <= 3:
            return view


class Answers(unittest.TestCase):
    def check(self, view, name, cells, answers):
        verdict = change_verdict(view, name, cells)
        check_verdict(self, view, verdict, answers, cells)
        self.assertEqual(answers_42(view, name, cells), answers)
        self.assertEqual(answers_of(change_verdict(view, name, tuple(list(cells)[::-1] * 2))), answers)

    def test_own_cell(self):
        self.check(VIEW, "city", ["buyers.city"], (YES, YES, NO))
        table = Body([BUYERS])
        alone = View(table, [("id", "buyers.id"), ("city", "buyers.city")])
        self.check(alone, "city", ["buyers.city"], (NO, YES, NO))
        self.assertIs(change_verdict(alone, "city", ["buyers.city"]).always_one, True)
        self.check(alone, "city", [], (YES, NO, NO))

    def test_keys_are_never_edited(self):
        self.check(VIEW, "id", BOTH, (YES, NO, NO))

    def test_hidden_link(self):
        self.check(VIEW, "city", ["orders.buyer"], (YES, YES, YES))
        self.check(VIEW, "city", BOTH, (YES, YES, YES))
        self.check(VIEW, "city", [], (YES, NO, NO))
        everything = View(BODY, [("id", "orders.id"), ("b", "buyers.id"), ("city", "buyers.city")])
        self.check(everything, "city", BOTH, (YES, YES, NO))
        self.check(everything, "b", BOTH, (YES, YES, NO))

    def test_cells_that_never_work_at_once(self):
        # The body of point 44.
        tables = [Table("a", ["k", "z"], ["k"]), Table("b", ["z", "x"], ["z"]), Table("d", ["x", "z"], ["x"])]
        body = Body(tables, [("a.z", "b.z"), ("b.z", "d.z"), ("b.x", "d.x")])
        view = View(body, [("k", "a.k"), ("x", "b.x")])
        for cells in itertools.chain.from_iterable(
                itertools.combinations(["a.z", "b.x", "d.z"], size) for size in range(4)):
            self.check(view, "x", cells, answers_42(view, "x", cells))
        alone = [cell for cell in ("a.z", "b.x", "d.z") if change_verdict(view, "x", [cell]).some is not None]
        self.assertGreater(len(alone), 1)
        apart = [pair for pair in itertools.combinations(alone, 2)
                 if change_verdict(view, "x", pair).several is None]
        self.assertGreater(len(apart), 0)

    def test_several_columns(self):
        tables = plain_tables("ab")
        view = View(Body(tables, [("a.x", "b.x")]), [("k", "a.k"), ("l", "b.k"), ("x", "a.x")])
        for cells in ([], ["a.x"], ["b.x"], ["a.x", "b.x"], ["a.y", "b.y", "a.x"]):
            self.check(view, "x", cells, answers_42(view, "x", cells))

    def test_regions(self):
        for conditions in ([("buyers.city", ">", 5)], [("buyers.city", "<", -5), ("orders.buyer", "!=", 0)],
                           [("orders.buyer", ">=", 10 ** 40)], [("buyers.city", "!=", 0)]):
            body = Body([ORDERS, BUYERS], [("orders.buyer", "buyers.id")], conditions)
            view = View(body, [("id", "orders.id"), ("city", "buyers.city")])
            for cells in (["buyers.city"], ["orders.buyer"], BOTH):
                self.check(view, "city", cells, answers_of(change_verdict(VIEW, "city", cells)))

    def test_fixed_classes(self):
        body = Body([ORDERS, BUYERS], [("orders.buyer", "buyers.id")], [("orders.buyer", "=", 3)])
        view = View(body, [("id", "orders.id"), ("b", "buyers.id"), ("city", "buyers.city")])
        for cells in ([], BOTH):
            verdict = change_verdict(view, "b", cells)
            self.assertEqual((verdict.none, verdict.some, verdict.several), (None, None, None))
            self.assertIs(verdict.always_one, False)
        self.check(view, "city", ["orders.buyer"], (YES, NO, NO))
        self.check(view, "city", BOTH, (YES, YES, NO))

    def test_against_all_patterns(self):
        dice = dice_of(151)
        seen = {}
        for number in range(270):
            view = drawn_view(dice, number)
            cells = cells_of(view.body)
            if number % 5 in (0, 1):
                cells = dice.sample(cells, min(len(cells), 1 + number % 5))
            for name in dice.sample(view.names, min(2, len(view.names))):
                answers = answers_42(view, name, cells)
                verdict = change_verdict(view, name, dice.sample(cells, len(cells)) + cells[:1])
                check_verdict(self, view, verdict, answers, cells)
                seen[answers] = seen.get(answers, 0) + 1
        for answers in ((NO, NO, NO), (YES, NO, NO), (YES, YES, NO), (YES, YES, YES), (NO, YES, NO)):
            self.assertGreater(seen.get(answers, 0), 5, seen)

    def test_many_hidden_classes(self):
        tables = [Table("a", ["k", *"stuvwxyz"], ["k"]), Table("b", ["k", *"stuvwxyz"], ["k"])]
        view = View(Body(tables, [("a.s", "b.k")]), [("k", "a.k"), ("v", "b.v")])
        self.assertEqual(len(hidden_of(view)), 15)
        self.assertEqual(answers_of(change_verdict(view, "v", cells_of(view.body))), (YES, YES, YES))


class DrawnStores(unittest.TestCase):
    def test_no_store_has_what_a_verdict_rules_out(self):
        dice = dice_of(152)
        held = {}
        lone = View(Body(plain_tables("a"), [], [("a.y", "!=", 1)]), [("k", "a.k"), ("x", "a.x"), ("y", "a.y")])
        both = View(Body([Table("b", ["k", "v"], ["k"]), Table("a", ["k", "w"], ["k"])], [("b.k", "a.k")]),
                    [("k", "b.k"), ("v", "b.v"), ("w", "a.w")])
        for number in range(400):
            view = (lone, both)[number // 10 % 2] if number % 10 == 0 else drawn_view(dice, number)
            cells = cells_of(view.body)
            if number % 2:
                cells = dice.sample(cells, min(len(cells), 1))
            store = some_store(dice, view.body.tables, 4, 0)
            for row in view.rows(store)[:2]:
                name = dice.choice(view.names)
                verdict = change_verdict(view, name, cells)
                write = Change(row, name, dice.randint(0, 3))
                if refusal_of(view, store, write) is None:
                    found, _ = least_of(view, store, write, cells)
                    for count, case in enumerate((verdict.none, verdict.some, verdict.several)):
                        if case is None:
                            held[count] = held.get(count, 0) + 1
                            self.assertFalse((len(found) == 0, len(found) > 0, len(found) > 1)[count])
        for count in range(3):
            self.assertGreater(held.get(count, 0), 10, held)


class Faults(unittest.TestCase):
    def check(self, error, view, name, cells):
        with self.assertRaises(type(error)) as caught:
            change_verdict(view, name, cells)
        self.assertEqual(vars(caught.exception), vars(error))

    def test_order(self):
        fixed = View(Body([ORDERS, BUYERS], [("orders.buyer", "buyers.id")], [("buyers.city", "=", 3)]),
                     [("id", "orders.id"), ("city", "buyers.city")])
        for view in (VIEW, fixed):
            for name in ("", "buyers.city", "City", "none"):
                for cells in ([], BOTH, ["none"], ["orders.id"]):
                    self.check(NoName(name), view, name, cells)
            for column in ("", "city", "buyers", "orders.city", "buyers.city."):
                for cells in ([column], ["buyers.city", column, "buyers.id"], (column, "none")):
                    self.check(NoColumn(column), view, "city", cells)
            for column in ("orders.id", "buyers.id"):
                for cells in ([column], ["buyers.city", column, "none"], (column, "orders.id")):
                    self.check(KeyCell(column), view, "city", cells)


class Lists(unittest.TestCase):
    def test_lists_stay_and_belong_to_the_caller(self):
        cells = ["orders.buyer", "buyers.city", "orders.buyer"]
        verdict = change_verdict(VIEW, "city", cells)
        self.assertEqual(cells, ["orders.buyer", "buyers.city", "orders.buyer"])
        expected = list(verdict.several.meanings)
        verdict.several.meanings.clear()
        self.assertEqual(change_verdict(VIEW, "city", cells).several.meanings, expected)


if __name__ == "__main__":
    unittest.main()
