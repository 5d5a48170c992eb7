"""Points 2 and 54 to 56 and the section shownwrites/fewest.py."""

import itertools
import unittest

from shownwrites.bodies import Body
from shownwrites.cases import Case
from shownwrites.closures import Split
from shownwrites.errors import (BadCount, FixedColumn, KeyCell, MustShow, NoColumn, NoTable, NotKeyed,
                                NothingShown, ShownTwice)
from shownwrites.fewest import Fewest, fewest, view_of
from shownwrites.tables import Table
from shownwrites.views import View
from tests.reference import (closure_of, columns_of, derivations_of, dice_of, linked_views, some_body, sparse_view,
                             value_at)
from tests.slow_verdicts import answers_41, answers_42, cells_of, check_case, hidden_of

ORDERS = Table("orders", ["id", "buyer"], ["id"])
BUYERS = Table("buyers", ["id", "city"], ["id"])
BODY = Body([ORDERS, BUYERS], [("orders.buyer", "buyers.id")])
BOTH = ["buyers.city", "orders.buyer"]


def plain_view(body, heads):
    """The view of a candidate, whose heads are given in class order."""
    return View(body, [(f"c{at}", head) for at, head in enumerate(heads, start=1)])


def all_candidates(body, must):
    """All candidates in their order."""
    needed = {body.head(column) for column in must}
    found = []
    for size in range(1, len(body.open_heads) + 1):
        found += [some for some in itertools.combinations(body.open_heads, size) if needed <= set(some)]
    return found


def fault_of(body, heads, add, change):
    """What is not good about a candidate: "split", "add", the number of a change, or None."""
    if len(closure_of(body, heads)) < len(body.classes):
        return "split"
    view = plain_view(body, heads)
    if add is not None and answers_41(view, list(dict.fromkeys(add)))[2]:
        return "add"
    for number, (column, cells) in enumerate(change):
        name = view.names[heads.index(body.head(column))]
        if answers_42(view, name, cells)[2]:
            return number
    return None


class Held(unittest.TestCase):
    def check(self, body, must, add, change, *, slow=True):
        """Hold the answer to points 54 to 56; the faults of the papers are returned."""
        found = fewest(body, must, add=add, change=change)
        self.assertIs(type(found), Fewest)
        self.assertIs(type(found.papers), list)
        order = all_candidates(body, must)
        self.assertIn(found.columns, order)
        self.assertEqual([heads for heads, _ in found.papers], order[:order.index(found.columns)])
        faults = []
        for heads, paper in found.papers:
            fault = fault_of(body, heads, add, change) if slow else None
            self.paper(body, heads, paper, add, change, fault)
            faults.append(fault)
        if slow:
            self.assertNotIn(None, faults)
            self.assertIsNone(fault_of(body, found.columns, add, change))
        return faults

    def paper(self, body, heads, paper, add, change, fault):
        """Hold a paper against a candidate."""
        if isinstance(paper, Split):
            self.assertIn(fault, ("split", None))
            derivations = derivations_of(body, paper.store)
            for one in (paper.first, paper.second):
                self.assertIn(one, derivations)
                self.assertEqual([value_at(body, one, head) for head in heads],
                                 [value_at(body, paper.first, head) for head in heads])
            self.assertNotEqual(paper.first, paper.second)
            return
        self.assertIs(type(paper), Case)
        view = plain_view(body, heads)
        if paper.write.kind == "add":
            self.assertIn(fault, ("add", None))
            check_case(self, view, paper, 2, sorted(set(add)))
        else:
            self.assertEqual(paper.write.kind, "change")
            column, cells = change[fault or 0]
            self.assertEqual(paper.write.name, view.names[heads.index(body.head(column))])
            check_case(self, view, paper, 2, cells)


class Answers(Held):
    def test_splits_alone(self):
        self.assertEqual(fewest(BODY, []).columns, ("orders.id",))
        self.assertEqual(fewest(BODY, []).papers, [])
        faults = self.check(BODY, ["buyers.id"], None, [])
        self.assertEqual(fewest(BODY, ["buyers.id"]).columns, ("orders.id", "orders.buyer"))
        self.assertEqual(faults, ["split"])
        two = Body([ORDERS, Table("z", ["k", "v"], ["k"])])
        self.assertEqual(self.check(two, [], None, []), ["split"] * 5)
        self.assertEqual(fewest(two, ()).columns, ("orders.id", "z.k"))

    def test_adds(self):
        for add, columns in ((None, ("orders.id",)), ([], ("orders.id",)), (["buyers"], ("orders.id", "buyers.city")),
                             (["orders"], ("orders.id", "orders.buyer")),
                             (["orders", "buyers"], ("orders.id", "orders.buyer", "buyers.city"))):
            self.check(BODY, ["orders.id"], add, [])
            self.assertEqual(fewest(BODY, [], add=add).columns, columns)
            if add:
                self.assertEqual(fewest(BODY, (), add=tuple(add[::-1] + add)).columns, columns)

    def test_changes(self):
        wish = [("buyers.city", BOTH)]
        self.assertEqual(self.check(BODY, ["orders.id", "buyers.city"], None, wish), [0])
        self.assertEqual(fewest(BODY, ["orders.id", "buyers.city"], change=wish).columns,
                         ("orders.id", "orders.buyer", "buyers.city"))
        for cells in ([], ["buyers.city"]):
            self.assertEqual(fewest(BODY, ["buyers.city"], change=[("buyers.city", cells)]).columns,
                             ("orders.id", "buyers.city"))
        more = [("orders.id", BOTH), ("buyers.city", ("buyers.city",)), ("buyers.city", ("orders.buyer",))]
        self.assertEqual(self.check(BODY, ["buyers.city", "orders.id"], ["buyers"], more), [2])

    def test_must_show_everything(self):
        every = columns_of(BODY.tables)
        self.assertEqual(fewest(BODY, every).columns, BODY.open_heads)
        self.assertEqual(fewest(BODY, every * 2, add=["orders"], change=[("buyers.id", BOTH)]).papers, [])

    def test_fixed_classes(self):
        body = Body([ORDERS, BUYERS], [("orders.buyer", "buyers.id")], [("orders.id", "=", 1)])
        self.assertEqual(fewest(body, []).columns, ("orders.buyer",))
        self.assertEqual(self.check(body, ["buyers.city"], ["orders"], [("buyers.city", BOTH)]), ["add"])
        self.assertEqual(self.check(body, ["buyers.city"], ["buyers"], [("buyers.city", BOTH)]), [0])
        self.assertEqual(self.check(body, ["buyers.city"], ["buyers"], [("buyers.city", BOTH[:1])]), [])

    def test_any_body(self):
        dice = dice_of(191)
        faults, sizes = {}, {}
        for number in range(240):
            view = (sparse_view(dice), dice.choice(linked_views()))[number % 2]
            body = some_body(dice, 4) if number % 4 == 0 else view.body
            heads = list(body.open_heads)
            if not 0 < len(heads) <= 8:
                continue
            must = dice.sample(heads, dice.randint(0, len(heads)))
            if number % 4 and number % 3:
                must = [head for head in view.heads if head in heads]
            if len(heads) > 6:
                must = dice.sample(heads, dice.randint(len(heads) - 3, len(heads)))
            columns = [dice.choice([members for members in body.classes if head in members][0]) for head in must]
            add = dice.choice([None, None, [], list(body.names), dice.sample(body.names, 1) * 2])
            cells = cells_of(body)
            change = [(column, dice.sample(cells, dice.choice([len(cells), dice.randint(0, len(cells))])))
                      for column in columns[-2:]]
            slow = all(len(hidden_of(plain_view(body, some))) <= 3 for some in all_candidates(body, must)
                       if len(closure_of(body, some)) == len(body.classes))
            for fault in self.check(body, columns, add, change, slow=slow):
                fault = "change" if isinstance(fault, int) else fault
                faults[fault] = faults.get(fault, 0) + 1
            sizes[len(heads)] = sizes.get(len(heads), 0) + 1
        for fault in ("split", "add", "change"):
            self.assertGreater(faults.get(fault, 0), 5, faults)
        for size in range(1, 9):
            self.assertGreater(sizes.get(size, 0), 3, sizes)

    def test_eight_open_classes(self):
        a, b = Table("a", ["k", "t", "u", "v"], ["k"]), Table("b", ["k", "t", "u", "v", "w"], ["k"])
        body = Body([a, b], [("a.v", "b.k")])
        self.assertEqual(len(body.open_heads), 8)
        found = fewest(body, [], add=["a", "b"])
        self.assertEqual(found.columns, body.open_heads)
        self.assertEqual([heads for heads, _ in found.papers], all_candidates(body, [])[:-1])
        for heads, paper in found.papers[::7]:
            if isinstance(paper, Split):
                self.paper(body, heads, paper, ["a", "b"], [], None)
        wish = [("b.w", cells_of(body))]
        found = fewest(body, ["b.w"], change=wish)
        self.assertEqual(found.columns, ("a.k", "a.v", "b.w"))
        nine = Body([a, Table("b", ["k", "t", "u", "v", "w", "x"], ["k"])], [("a.v", "b.k")])
        self.assertEqual(fewest(nine, ["b.x"], change=[("b.x", ["b.x"])]).columns, ("a.k", "b.x"))


class ViewOf(unittest.TestCase):
    def test_class_order(self):
        for heads in itertools.permutations(["orders.id", "buyers.id", "buyers.city"]):
            view = view_of(BODY, heads)
            self.assertIs(type(view), View)
            self.assertEqual((view.names, view.heads), (("c1", "c2", "c3"), ("orders.id", "orders.buyer", "buyers.city")))
        view = view_of(BODY, ["buyers.city", "orders.id"])
        self.assertEqual((view.names, view.heads), (("c1", "c2"), ("orders.id", "buyers.city")))
        self.assertIs(view.body, BODY)

    def test_errors(self):
        with self.assertRaises(NothingShown):
            view_of(BODY, [])
        with self.assertRaises(NoColumn) as caught:
            view_of(BODY, ["buyers.city", "none", "orders.none"])
        self.assertEqual(caught.exception.column, "none")
        with self.assertRaises(NotKeyed) as caught:
            view_of(BODY, ["buyers.city", "buyers.id"])
        self.assertIs(type(caught.exception.split), Split)
        with self.assertRaises(ShownTwice):
            view_of(BODY, ["orders.id", "orders.buyer", "buyers.id"])


class Faults(unittest.TestCase):
    def check(self, error, body, must, **wishes):
        with self.assertRaises(type(error)) as caught:
            fewest(body, must, **wishes)
        self.assertEqual(vars(caught.exception), vars(error))

    def test_order(self):
        wide = Body([Table("t", ["k", *"abcdefghij"], ["k"]), BUYERS], [], [("buyers.id", "=", 1)])
        fixed = Body([BUYERS], [], [("buyers.id", "=", 1), ("buyers.city", "=", 1)])
        wrong = [("none", ["none"])]
        for add in (None, ["none"]):
            for change in ((), wrong):
                self.check(NoColumn("none"), wide, ["t.k", "none", "buyers.id"], add=add, change=change)
                self.check(FixedColumn("buyers.id"), wide, ["t.k", "buyers.id", "none"], add=add, change=change)
                self.check(FixedColumn("buyers.city"), fixed, ["buyers.city"], add=add, change=change)
        self.check(NoTable("none"), wide, ["t.k"], add=["t", "none", "other"], change=wrong)
        self.check(NoTable(""), fixed, [], add=["", "none"], change=wrong)
        self.check(NoColumn("none"), wide, ["t.k"], add=["t"], change=wrong)
        good = ("t.k", ["t.a"])
        for change, error in (([good, ("t.l", ["none"])], NoColumn("t.l")), ([("t.a", ["none"])], MustShow("t.a")),
                              ([("buyers.id", ["none"])], MustShow("buyers.id")), ([good, ("t.k", ["t.b", "none", "t.k"])], NoColumn("none")),
                              ([("t.k", ["t.b", "t.k", "none"]), ("none", [])], KeyCell("t.k")),
                              ([good, ("t.a", []), ("none", [])], MustShow("t.a"))):
            self.check(error, wide, ["t.k"], change=change)
        self.check(BadCount(11), wide, ["t.k"], change=[good])
        self.check(BadCount(9), wide, ["t.k", "t.a", "t.b", "t.k"])
        self.assertEqual(fewest(wide, ["t.c", "t.b", "t.a", "t.k"]).columns, ("t.k", "t.a", "t.b", "t.c"))
        self.check(NothingShown(), fixed, [])
        self.check(NothingShown(), fixed, (), add=["buyers"])


class Lists(unittest.TestCase):
    def test_lists_stay_and_belong_to_the_caller(self):
        must, add, cells = ["buyers.city", "orders.id"], ["orders", "orders"], list(BOTH)
        change = [("buyers.city", cells)]
        found = fewest(BODY, must, add=add, change=change)
        self.assertEqual((must, add, change), (["buyers.city", "orders.id"], ["orders", "orders"],
                                               [("buyers.city", BOTH)]))
        expected = [heads for heads, _ in found.papers]
        found.papers.clear()
        self.assertEqual([heads for heads, _ in fewest(BODY, must, add=add, change=change).papers], expected)
        heads = ["buyers.city", "orders.id"]
        view = view_of(BODY, heads)
        heads.clear()
        self.assertEqual(view.heads, ("orders.id", "buyers.city"))


if __name__ == "__main__":
    unittest.main()
