"""Points 2, 46, 47 and 48 and the section shownwrites/rules.py."""

import itertools
import unittest

from shownwrites.bodies import Body
from shownwrites.refusals import InvalidRule
from shownwrites.rules import Rules
from shownwrites.sums import Sums
from shownwrites.tables import Table
from shownwrites.views import View
from tests.reference import closure_of, dice_of, name_sets, plain_tables, some_body, some_shown, sparse_view

STOCK = Table("stock", ("shop", "code", "amount"), ("shop", "code"))
GOODS = Table("goods", ("code", "kind"), ("code",))
BODY = Body([STOCK, GOODS], [("stock.code", "goods.code")], [("stock.amount", ">", 0), ("goods.kind", "!=", 5)])
LOTS = View(BODY, [("shop", "stock.shop"), ("code", "stock.code"), ("amount", "stock.amount"),
                   ("kind", "goods.kind")])
PAIRS = View(BODY, [("shop", "stock.shop"), ("code", "stock.code")])
KINDS = Sums(BODY, [("kind", "goods.kind")], [("amount", "stock.amount")])
FIXED = View(Body([STOCK, GOODS], [("stock.code", "goods.code")], [("goods.kind", "=", 5)]),
             [("shop", "stock.shop"), ("code", "goods.code"), ("kind", "goods.kind")])
PARTS = ("drop", "add", "defaults", "change", "total")
CHANGES = [("kind", "goods.kind", "least"), ("shop", "stock.amount", "greatest")]


def wrong_part(view, **parts):
    """The part that InvalidRule tells, or None."""
    try:
        Rules(view, **parts)
    except InvalidRule as error:
        return error.part
    return None


def asked_of(view, names):
    """The classes that are asked, by the words of point 47."""
    body = view.body
    others = [name for name in body.names if name not in names]
    known, asked = set(closure_of(body, view.heads, others)), []
    listed = [members[0] for members in body.classes
              if any(members[0] in body.heads_of(name) for name in names)]
    while not set(listed) <= known:
        asked.append([head for head in listed if head not in known][0])
        known = set(closure_of(body, [*known, asked[-1]], others))
    return tuple(asked)


class Parts(unittest.TestCase):
    def test_of_views(self):
        defaults = [("goods.kind", 3), ("stock.amount", 10 ** 40)]
        rules = Rules(PAIRS, drop=["goods", "stock"], add=["goods", "stock"], defaults=defaults,
                      change=[("shop", "goods.kind", "least")])
        self.assertIs(rules.view, PAIRS)
        self.assertEqual((rules.drop_tables, rules.add_tables), (("goods", "stock"), ("goods", "stock")))
        self.assertEqual(rules.defaults, tuple(defaults))
        self.assertEqual((rules.change_picks, rules.total_words), ((("shop", "goods.kind", "least"),), ()))

    def test_of_sums(self):
        two = Sums(BODY, [], [("a", "stock.amount"), ("b", "goods.kind")])
        for first, second in itertools.product(("least key", "greatest key", "least value", "greatest value"), repeat=2):
            rules = Rules(two, drop=("stock",), total=[("b", first), ("a", second)])
            self.assertIs(rules.view, two)
            self.assertEqual((rules.drop_tables, rules.add_tables, rules.defaults, rules.change_picks, rules.asked),
                             (("stock",), (), (), (), ()))
            self.assertEqual(rules.total_words, (("b", first), ("a", second)))

    def test_none(self):
        for view in (LOTS, KINDS):
            rules = Rules(view)
            self.assertEqual((rules.drop_tables, rules.add_tables, rules.defaults, rules.change_picks,
                              rules.total_words, rules.asked), ((), (), (), (), (), ()))

    def test_lists_may_change_afterwards(self):
        given = {"drop": ["stock"], "add": ["stock"], "defaults": [("stock.amount", 1)],
                 "change": [("shop", "goods.kind", "least")]}
        rules = Rules(PAIRS, **given)
        same = Rules(PAIRS, **{part: tuple(given[part]) for part in given})
        expected = (rules.drop_tables, rules.add_tables, rules.defaults, rules.change_picks)
        for part in given:
            given[part].append("none")
            given[part][0] = "other"
        self.assertEqual((rules.drop_tables, rules.add_tables, rules.defaults, rules.change_picks), expected)
        self.assertEqual((same.drop_tables, same.add_tables, same.defaults, same.change_picks), expected)
        for part in expected:
            self.assertIs(type(part), tuple)
        words = [("amount", "least key")]
        rules = Rules(KINDS, total=words)
        words.clear()
        self.assertEqual(rules.total_words, (("amount", "least key"),))


class Asked(unittest.TestCase):
    def test_lists_in_any_order(self):
        defaults = [("goods.kind", 1), ("stock.amount", 1)]
        for names, asked in (([], ()), (["stock"], ("stock.amount",)), (["goods"], ("goods.kind",)),
                             (["stock", "goods"], ("stock.amount", "goods.kind"))):
            for some in itertools.permutations(names):
                self.assertEqual(Rules(PAIRS, add=some, defaults=defaults).asked, asked)

    def test_keys_of_the_other_tables(self):
        tables = plain_tables("ab")
        view = View(Body(tables, [("a.x", "b.k")]), [("k", "a.k")])
        defaults = [("a.x", 0), ("a.y", 0), ("b.x", 0), ("b.y", 0)]
        for names, asked in ((["a"], ("a.x", "a.y")), (["b"], ("b.x", "b.y")),
                             (["a", "b"], ("a.x", "a.y", "b.x", "b.y"))):
            self.assertEqual(Rules(view, add=names, defaults=defaults).asked, asked)
        # What follows from an asked class by the key of a table that is not listed is not asked.
        abc = plain_tables("abc")
        view = View(Body(abc, [("a.x", "b.k"), ("b.x", "c.k"), ("a.y", "c.x")]), [("k", "a.k")])
        self.assertEqual(Rules(view, add=["a"], defaults=[("a.x", 0)]).asked, ("a.x",))

    def test_of_any_view(self):
        dice = dice_of(161)
        sizes = {}
        for number in range(200):
            body = some_body(dice, 4)
            view = sparse_view(dice) if number % 2 else View(body, some_shown(dice, body))
            body = view.body
            hidden = [head for head in body.open_heads if head not in view.heads]
            for names in name_sets(body):
                asked = asked_of(view, names) if names else ()
                defaults = [(head, body.region(head).members(1)[0]) for head in hidden]
                needed = [entry for entry in defaults if entry[0] in asked]
                for given in (defaults, needed[::-1]):
                    self.assertEqual(Rules(view, add=dice.sample(names, len(names)), defaults=given).asked, asked)
                for at in range(len(needed)):
                    self.assertEqual(wrong_part(view, add=names, defaults=needed[:at] + needed[at + 1:]), "defaults")
                sizes[len(asked)] = sizes.get(len(asked), 0) + 1
        for size in range(4):
            self.assertGreater(sizes.get(size, 0), 5, sizes)


class Wrong(unittest.TestCase):
    def test_tables(self):
        defaults = [("goods.kind", 1), ("stock.amount", 1)]
        for names in (["none"], ["stock", ""], ["goods", "stock", "goods"], ["stock", "stock"], ["stock.code"]):
            self.assertEqual(wrong_part(PAIRS, drop=names), "drop")
            self.assertEqual(wrong_part(KINDS, drop=names), "drop")
            self.assertEqual(wrong_part(PAIRS, add=names, defaults=defaults), "add")
            self.assertEqual(wrong_part(KINDS, add=names), "add")
        self.assertEqual(wrong_part(KINDS, add=["stock"]), "add")
        self.assertIsNone(wrong_part(KINDS, drop=["stock", "goods"]))

    def test_defaults(self):
        for defaults in ([("none", 1)], [("stock", 1)], [("stock.kind", 1)], [("", 1)],
                         [("stock.shop", 1)], [("goods.code", 1)],
                         [("stock.amount", 0)], [("stock.amount", -10 ** 40)], [("goods.kind", 5)],
                         [("stock.amount", 1), ("stock.amount", 1)], [("stock.amount", 1), ("stock.amount", 2)]):
            for add in ([], ["stock"]):
                self.assertEqual(wrong_part(PAIRS, add=add, defaults=[("stock.amount", 3), *defaults]), "defaults")
                if not add:
                    self.assertEqual(wrong_part(PAIRS, defaults=defaults), "defaults")
        self.assertEqual(wrong_part(KINDS, defaults=[("stock.amount", 1)]), "defaults")
        self.assertEqual(wrong_part(FIXED, defaults=[("goods.kind", 5)]), "defaults")
        hidden = View(FIXED.body, [("shop", "stock.shop"), ("code", "goods.code")])
        self.assertEqual(wrong_part(hidden, defaults=[("goods.kind", 5)]), "defaults")

    def test_two_defaults_of_one_class(self):
        ab = plain_tables("ab")
        view = View(Body(ab, [("a.x", "b.x")]), [("k", "a.k"), ("l", "b.k")])
        for first, second in itertools.product(("a.x", "b.x"), repeat=2):
            self.assertEqual(wrong_part(view, defaults=[(first, 1), (second, 1)]), "defaults")
        self.assertIsNone(wrong_part(view, defaults=[("b.x", 1), ("b.y", 1)]))

    def test_needed_defaults(self):
        self.assertEqual(wrong_part(PAIRS, add=["stock"]), "defaults")
        self.assertEqual(wrong_part(PAIRS, add=["stock"], defaults=[("goods.kind", 1)]), "defaults")
        self.assertEqual(wrong_part(PAIRS, add=["stock", "goods"], defaults=[("goods.kind", 1)]), "defaults")
        for defaults in ([("stock.amount", 1)], [("goods.kind", 6), ("stock.amount", 1)]):
            self.assertIsNone(wrong_part(PAIRS, add=["stock"], defaults=defaults))
            self.assertIsNone(wrong_part(PAIRS, defaults=defaults))
        for names in (["stock"], ["goods"], ["goods", "stock"]):
            self.assertIsNone(wrong_part(LOTS, add=names))

    def test_changes(self):
        for entry in (("none", "stock.amount", "least"), ("", "stock.amount", "least"),
                      ("stock.shop", "stock.amount", "least"), ("kind", "none", "least"), ("kind", "kind", "least"),
                      ("kind", "goods.amount", "least"), ("kind", "goods.code", "least"),
                      ("kind", "stock.shop", "least"), ("kind", "goods.kind", ""), ("kind", "goods.kind", "Least"),
                      ("kind", "goods.kind", "least value"), ("kind", "stock.amount", "greatest ")):
            self.assertEqual(wrong_part(LOTS, change=[entry]), "change")
            self.assertEqual(wrong_part(LOTS, change=[("shop", "stock.amount", "least"), entry]), "change")
        self.assertEqual(wrong_part(LOTS, change=[CHANGES[0], CHANGES[1], CHANGES[0]]), "change")
        self.assertEqual(wrong_part(LOTS, change=[CHANGES[0], ("kind", "stock.amount", "greatest")]), "change")
        self.assertEqual(wrong_part(FIXED, change=[("kind", "goods.kind", "least")]), "change")
        self.assertEqual(wrong_part(KINDS, change=[("kind", "goods.kind", "least")]), "change")
        # A cell may belong to a class that is shown under another name, or to a fixed one.
        self.assertIsNone(wrong_part(LOTS, change=CHANGES))
        self.assertIsNone(wrong_part(FIXED, change=[("shop", "goods.kind", "least")]))

    def test_totals(self):
        for entry in (("none", "least key"), ("kind", "least key"), ("count", "least key"),
                      ("stock.amount", "least key"), ("amount", "least"), ("amount", "key"), ("amount", ""),
                      ("amount", "least  key"), ("amount", "Least key"), ("amount", "least amount")):
            self.assertEqual(wrong_part(KINDS, total=[entry]), "total")
        self.assertEqual(wrong_part(KINDS, total=[("amount", "least key")] * 2), "total")
        self.assertEqual(wrong_part(KINDS, total=[("amount", "least key"), ("amount", "greatest key")]), "total")
        self.assertEqual(wrong_part(LOTS, total=[("amount", "least key")]), "total")

    def test_several_at_once(self):
        wrong = {LOTS: {"drop": ["none"], "add": ["none"], "defaults": [("stock.amount", 1)],
                        "change": [("kind", "goods.kind", "")], "total": [("amount", "least key")]},
                 KINDS: {"drop": ["none"], "add": ["stock"], "defaults": [("stock.amount", 1)],
                         "change": [("kind", "goods.kind", "least")], "total": [("amount", "")]}}
        for view, parts in wrong.items():
            for size in range(1, 6):
                for some in itertools.combinations(PARTS, size):
                    given = {part: parts[part] for part in dict.fromkeys(some[::-1])}
                    self.assertEqual(wrong_part(view, **given), some[0])
        # A needed default that is missing comes after wrong tables and before wrong changes.
        self.assertEqual(wrong_part(PAIRS, add=["stock"], change=[("kind", "none", "")]), "defaults")
        self.assertEqual(wrong_part(PAIRS, add=["stock", "stock"], change=[("kind", "none", "")]), "add")


if __name__ == "__main__":
    unittest.main()
