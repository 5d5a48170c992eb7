"""Points 2, 28 to 31, 33, 37 to 41 and 45 and the sections shownwrites/cases.py and shownwrites/verdicts.py."""

import itertools
import unittest

from shownwrites.bodies import Body
from shownwrites.cases import Case, Verdict
from shownwrites.errors import NoTable
from shownwrites.refusals import NoName
from shownwrites.stores import Store
from shownwrites.sums import Sums
from shownwrites.tables import Table
from shownwrites.verdicts import add_verdict, clear_verdict, drop_verdict, total_verdict
from shownwrites.views import View
from shownwrites.writes import Add, Clear, Drop, Total
from tests.reference import (dice_of, linked_sums, linked_views, plain_tables, refusal_of, some_shown_view,
                             some_store)
from tests.slow_verdicts import (answers_39, answers_40, answers_41, answers_of, check_verdict, hidden_of,
                                 is_view, least_of)

ORDERS = Table("orders", ["id", "buyer"], ["id"])
BUYERS = Table("buyers", ["id", "city"], ["id"])
BODY = Body([ORDERS, BUYERS], [("orders.buyer", "buyers.id")])
VIEW = View(BODY, [("id", "orders.id"), ("city", "buyers.city")])
CITIES = Sums(BODY, [("city", "buyers.city")], [])
STOCK = Table("stock", ("shop", "code", "amount"), ("shop", "code"))
GOODS = Table("goods", ("code", "kind"), ("code",))
STOCKED = Body([STOCK, GOODS], [("stock.code", "goods.code")])
YES, NO = True, False


def some_of(dice, body):
    """Tables of the body: none, one, some or all, in any order, perhaps twice."""
    names = dice.sample(body.names, dice.choice([0, 1, len(body.names), dice.randint(0, len(body.names))]))
    return names + names[:dice.choice([0, 0, 1, len(names)])]


def drawn_view(dice, number):
    """A view of one to four tables, or sums, of which some have many links."""
    if number % 4 == 0:
        return dice.choice(linked_views())
    if number % 4 == 1:
        return dice.choice(linked_sums())
    return some_shown_view(dice, 4)


class Answers(unittest.TestCase):
    def test_drops(self):
        for names, answers in (([], (YES, NO, NO)), (["orders"], (NO, YES, NO)), (["buyers"], (YES, YES, NO)),
                               (["orders", "buyers"], (NO, YES, YES))):
            verdict = drop_verdict(VIEW, names)
            check_verdict(self, VIEW, verdict, answers, names)
            self.assertEqual(answers_of(drop_verdict(VIEW, tuple(names[::-1] * 2))), answers)

    def test_clears(self):
        for names, answers in (([], (YES, NO, NO)), (["orders"], (NO, YES, NO)), (["buyers"], (NO, YES, NO)),
                               (["orders", "buyers"], (NO, YES, YES))):
            check_verdict(self, CITIES, clear_verdict(CITIES, names), answers, names)
        everything = Sums(BODY, [], [])
        check_verdict(self, everything, clear_verdict(everything, ["buyers"]), (NO, YES, NO), ["buyers"])
        by_order = Sums(BODY, [("id", "orders.id")], [])
        check_verdict(self, by_order, clear_verdict(by_order, ["buyers"]), (YES, YES, NO), ["buyers"])

    def test_totals(self):
        sums = Sums(STOCKED, [("kind", "goods.kind")], [("amount", "stock.amount")])
        check_verdict(self, sums, total_verdict(sums, "amount"), (NO, YES, YES), [])
        keyed = Sums(STOCKED, [("s", "stock.shop"), ("c", "goods.code")], [("amount", "stock.amount")])
        verdict = total_verdict(keyed, "amount")
        check_verdict(self, keyed, verdict, (NO, YES, NO), [])
        self.assertIs(verdict.always_one, True)
        other = Sums(STOCKED, [("shop", "stock.shop")], [("kind", "goods.kind")])
        check_verdict(self, other, total_verdict(other, "kind"), (YES, YES, YES), [])

    def test_totals_in_regions(self):
        for conditions in ([(">", 0)], [("<", -5)], [("!=", 0)], [("!=", number) for number in range(40)],
                           [(">=", 1), ("!=", 3), ("!=", 5), ("!=", 7)], [("<=", 1), ("!=", -1), ("!=", -3)]):
            body = Body([STOCK], [], [("stock.amount", *some) for some in conditions])
            sums = Sums(body, [("shop", "stock.shop")], [("amount", "stock.amount")])
            verdict = total_verdict(sums, "amount")
            check_verdict(self, sums, verdict, (YES, YES, YES), [])

    def test_adds(self):
        for names, answers in (([], (YES, NO, NO)), (["orders"], (YES, YES, YES)), (["buyers"], (YES, YES, NO)),
                               (["buyers", "orders"], (YES, YES, YES))):
            check_verdict(self, VIEW, add_verdict(VIEW, names), answers, names)
        everything = View(BODY, [("id", "orders.id"), ("b", "buyers.id"), ("city", "buyers.city")])
        for names, answers in ((["orders"], (YES, YES, NO)), (["buyers", "orders"], (YES, YES, NO))):
            check_verdict(self, everything, add_verdict(everything, names), answers, names)
        table = Table("t", ["a", "b"], ["a", "b"])
        view = View(Body([table]), [("a", "t.a"), ("b", "t.b")])
        check_verdict(self, view, add_verdict(view, ["t"]), (NO, YES, NO), ["t"])
        two = Body([table, Table("u", ["a", "b"], ["a"])], [("t.a", "u.b")])
        view = View(two, [("b", "t.b"), ("u", "u.a")])
        check_verdict(self, view, add_verdict(view, ["t", "u"]), answers_41(view, ["t", "u"]), ["t", "u"])

    def test_adds_beside_the_second_condition(self):
        # No other column than those of keys is shown or fixed, but a row completes several derivations.
        a, b = Table("a", ["k", "v"], ["k"]), Table("b", ["k", "w"], ["k"])
        c = Table("c", ["k", "l"], ["k", "l"])
        for body in (Body([a, b]), Body([c, b], [("c.k", "b.k")]), Body([c, b], [("c.k", "b.w")])):
            shown = [head for head in body.open_heads if head.endswith((".k", ".l"))]
            view = View(body, [(f"n{at}", head) for at, head in enumerate(shown)])
            check_verdict(self, view, add_verdict(view, body.names), answers_41(view, body.names), body.names)

    def test_adds_beside_a_fixed_key(self):
        # The fixed class is shown, but stands in the key of one table only: it does not count.
        t, u = Table("t", ["a"], ["a"]), Table("u", ["a", "k"], ["a", "k"])
        body = Body([t, u], [("t.a", "u.a")], [("u.k", "=", 1)])
        view = View(body, [("a", "t.a"), ("k", "u.k")])
        check_verdict(self, view, add_verdict(view, ["u", "t"]), (NO, YES, NO), ["u", "t"])

    def test_all_fixed(self):
        body = Body([BUYERS], [], [("buyers.id", "=", 1), ("buyers.city", "=", 2)])
        view = View(body, [("city", "buyers.city")])
        check_verdict(self, view, drop_verdict(view, ["buyers"]), (NO, YES, NO), ["buyers"])
        check_verdict(self, view, add_verdict(view, ["buyers"]), (YES, YES, NO), ["buyers"])
        check_verdict(self, view, add_verdict(view, []), (YES, NO, NO), [])
        sums = Sums(body, [("id", "buyers.id")], [])
        check_verdict(self, sums, clear_verdict(sums, ["buyers"]), (NO, YES, NO), ["buyers"])
        key = View(Body([Table("t", ["k"], ["k"])], [], [("t.k", "=", 0)]), [("k", "t.k")])
        check_verdict(self, key, add_verdict(key, ["t"]), (NO, YES, NO), ["t"])

    def test_against_the_points(self):
        dice = dice_of(141)
        seen = {}
        for number in range(420):
            shown = drawn_view(dice, number)
            names = some_of(dice, shown.body)
            if is_view(shown):
                told = [("drop", drop_verdict(shown, names), answers_39(shown.body, shown.heads, names), names)]
                if len(hidden_of(shown)) <= 3:
                    told.append(("add", add_verdict(shown, names), answers_41(shown, names), names))
            else:
                told = [("clear", clear_verdict(shown, names), answers_39(shown.body, shown.by_heads, names), names)]
                told += [("total", total_verdict(shown, name), answers_40(shown, name), [])
                         for name in shown.total_names]
            for kind, verdict, answers, permitted in told:
                check_verdict(self, shown, verdict, answers, permitted)
                seen[kind, answers] = seen.get((kind, answers), 0) + 1
        for kind in ("drop", "clear", "add"):
            for answers in ((YES, NO, NO), (YES, YES, NO), (YES, YES, YES), (NO, YES, NO)):
                self.assertGreater(seen.get((kind, answers), 0), 3, seen)
        for answers in ((NO, YES, NO), (NO, YES, YES), (YES, YES, NO), (YES, YES, YES)):
            self.assertGreater(seen.get(("total", answers), 0), 0, seen)


class Kinds(unittest.TestCase):
    def test_objects(self):
        for verdict, kind in ((drop_verdict(VIEW, ["buyers", "orders"]), Drop), (clear_verdict(CITIES, ["orders"]), Clear),
                              (add_verdict(VIEW, ["orders"]), Add)):
            self.assertIs(type(verdict), Verdict)
            for case in (verdict.none, verdict.some, verdict.several):
                if case is not None:
                    self.assertIs(type(case), Case)
                    self.assertIs(type(case.write), kind)
                    self.assertIs(type(case.store), Store)
        sums = Sums(STOCKED, [], [("amount", "stock.amount")])
        self.assertIs(type(total_verdict(sums, "amount").several.write), Total)

    def test_always_one(self):
        case = Case(Store([BUYERS]), Drop((1,)), [])
        for none, some, several in itertools.product((None, case), repeat=3):
            verdict = Verdict(none, some, several)
            self.assertIs(verdict.always_one, none is None and some is not None and several is None)

    def test_lists_belong_to_the_caller(self):
        names = ["orders", "buyers"]
        for call, shown in ((drop_verdict, VIEW), (add_verdict, VIEW), (clear_verdict, CITIES)):
            first = call(shown, names)
            expected = list(first.some.meanings)
            first.some.meanings.clear()
            self.assertEqual(call(shown, names).some.meanings, expected)
            if first.several is not None:
                self.assertEqual(len(first.several.meanings), 2)
        self.assertEqual(names, ["orders", "buyers"])
        meanings = [1]
        case = Case(Store([BUYERS]), Drop((1,)), meanings)
        meanings.append(2)
        self.assertEqual(case.meanings, [1])


class Faults(unittest.TestCase):
    def test_no_table(self):
        for call, shown in ((drop_verdict, VIEW), (add_verdict, VIEW), (clear_verdict, CITIES)):
            for name in ("", "city", "orders.id", "Buyers", "stock"):
                for names in ([name], ["orders", name, "none"], (name, "orders", "none"), ["buyers"] * 2 + [name]):
                    with self.assertRaises(NoTable) as caught:
                        call(shown, names)
                    self.assertEqual(caught.exception.name, name)

    def test_no_name(self):
        sums = Sums(STOCKED, [("kind", "goods.kind")], [("amount", "stock.amount")])
        for name in ("", "kind", "count", "stock.amount", "Amount"):
            with self.assertRaises(NoName) as caught:
                total_verdict(sums, name)
            self.assertEqual(caught.exception.name, name)


class DrawnStores(unittest.TestCase):
    """No store has what a verdict rules out."""

    def check(self, shown, store, write, permitted, verdict, seen):
        if refusal_of(shown, store, write) is None:
            found, more = least_of(shown, store, write, permitted)
            if verdict.none is None:
                self.assertGreater(len(found), 0)
            if verdict.some is None:
                self.assertEqual(found, [])
            if verdict.several is None:
                self.assertLess(len(found), 2)
                self.assertFalse(more)
            if verdict.always_one:
                self.assertEqual(len(found), 1)
                seen[write.kind] = seen.get(write.kind, 0) + 1

    def test_deletions(self):
        dice = dice_of(142)
        seen = {}
        for number in range(300):
            shown = drawn_view(dice, number)
            names = some_of(dice, shown.body)
            store = some_store(dice, shown.body.tables, 3, 0)
            if len(store) < 10:
                rows = shown.rows(store)[:2]
                for row in rows:
                    if is_view(shown):
                        self.check(shown, store, Drop(row), names, drop_verdict(shown, names), seen)
                    else:
                        self.check(shown, store, Clear(row[0]), names, clear_verdict(shown, names), seen)
        self.assertGreater(seen.get("drop", 0), 5)
        self.assertGreater(seen.get("clear", 0), 5)

    def test_totals(self):
        dice = dice_of(143)
        seen = {}
        keyed = [Sums(Body([STOCK, GOODS], [("stock.code", "goods.code")]),
                      [("s", "stock.shop"), ("c", "goods.code")], [("amount", "stock.amount")]),
                 Sums(Body([BUYERS]), [("id", "buyers.id")], [("city", "buyers.city")])]
        for number in range(200):
            shown = keyed[number // 4 % 2] if number % 4 == 0 else drawn_view(dice, number)
            if not is_view(shown):
                store = some_store(dice, shown.body.tables, 4, 0)
                for group, _, _ in shown.rows(store)[:2]:
                    for name in shown.total_names:
                        write = Total(group, name, dice.randint(-4, 8))
                        self.check(shown, store, write, [], total_verdict(shown, name), seen)
        self.assertGreater(seen.get("total", 0), 5)

    def test_adds(self):
        dice = dice_of(144)
        table = Table("t", ["a", "b"], ["a", "b"])
        both = Body([table, Table("u", ["b", "c"], ["b", "c"])], [("t.b", "u.b")])
        keyed = [View(Body([table]), [("a", "t.a"), ("b", "t.b")]),
                 View(both, [("a", "t.a"), ("b", "t.b"), ("c", "u.c")]),
                 View(Body(plain_tables("a")), [("k", "a.k"), ("x", "a.x"), ("y", "a.y")])]
        seen = {}
        for number in range(400):
            shown = dice.choice(keyed) if number % 3 == 0 else drawn_view(dice, number)
            if is_view(shown) and len(hidden_of(shown)) <= 3:
                names = some_of(dice, shown.body)
                verdict = add_verdict(shown, names)
                store = some_store(dice, shown.body.tables, 3, 0)
                row = tuple(dice.randint(0, 2) for _ in shown.heads)
                self.check(shown, store, Add(row), names, verdict, seen)
        self.assertGreater(seen.get("add", 0), 5)


if __name__ == "__main__":
    unittest.main()
