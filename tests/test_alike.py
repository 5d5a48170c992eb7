"""Points 2, 52 and 53 and the section shownwrites/alike.py."""

import unittest

from shownwrites.alike import Parted, rules_alike, views_alike
from shownwrites.bodies import Body
from shownwrites.edits import Edit
from shownwrites.errors import (Empty, Narrow, NotKeyed, OtherNames, OtherView, SameTable, ShownTwice,
                                Unlike)
from shownwrites.puts import put
from shownwrites.refusals import InvalidSums, NotTotal
from shownwrites.regions import conditions_of
from shownwrites.rules import Rules
from shownwrites.stores import Store
from shownwrites.sums import Sums
from shownwrites.tables import Table
from shownwrites.views import View
from shownwrites.writes import Change, Total
from tests.reference import (columns_of, dice_of, linked_sums, linked_views, plain_tables, refusal_of, shown_rows,
                             some_edit, some_shown_view, some_store, some_write, sparse_view, write_by)
from tests.slow_rules import put_of, rules_parted, shown_alike, some_rules
from tests.slow_verdicts import hidden_of, is_view

STOCK = Table("stock", ("shop", "code", "amount"), ("shop", "code"))
GOODS = Table("goods", ("code", "kind"), ("code",))
BODY = Body([STOCK, GOODS], [("stock.code", "goods.code")])
SHOWN = [("shop", "stock.shop"), ("code", "stock.code"), ("amount", "stock.amount"), ("kind", "goods.kind")]
LOTS = View(BODY, SHOWN)
PAIRS = View(BODY, SHOWN[:2])
KINDS = Sums(BODY, [("kind", "goods.kind")], [("amount", "stock.amount")])


def made_like(shown, body, columns):
    """A view, or sums, of another body, with the names of this one; None if there is none."""
    try:
        if is_view(shown):
            return View(body, list(zip(shown.names, columns)))
        by = len(shown.by_names)
        return Sums(body, list(zip(shown.by_names, columns)), list(zip(shown.total_names, columns[by:])))
    except (NotKeyed, NotTotal, InvalidSums, ShownTwice):
        return None


def heads_of(shown):
    """The heads of what is shown, in the order of the names."""
    return list(shown.heads) if is_view(shown) else [*shown.by_heads, *shown.total_heads]


def told_parts(dice, shown):
    """The tables, links, conditions and shown columns, told in other words."""
    body = shown.body
    tables = dice.sample(body.tables, len(body.tables))
    links, conditions = [], []
    for members in body.classes:
        some = dice.sample(members, len(members))
        links += [dice.choice([(one, two), (two, one)]) for one, two in zip(some, some[1:])]
        conditions += [(dice.choice(members), sign, number)
                       for sign, number in conditions_of(body.region(members[0]))]
        if body.fixed(members[0]) is not None:
            # Columns that are fixed to the same number may be linked or not.
            links = [link for link in links if link[0] not in members or dice.random() < 0.5]
            conditions += [(column, "=", body.fixed(members[0])) for column in members]
    dice.shuffle(links)
    dice.shuffle(conditions)
    columns = [dice.choice([members for members in body.classes if head in members][0]) for head in heads_of(shown)]
    return (tables, links, conditions, columns)


def bent_parts(dice, tables, links, conditions, columns):
    """The same parts with one thing changed."""
    every = columns_of(tables)
    column = dice.choice(every)
    kind = dice.randint(0, 6)
    if kind == 0:
        links = links + [(column, dice.choice(every))]
    if kind == 1 and links:
        links = links[1:]
    if kind == 2:
        conditions = conditions + [(column, dice.choice(["=", "!=", "<", ">"]), dice.randint(-1, 2))]
    if kind == 3 and conditions:
        conditions = conditions[1:]
    if kind == 4:
        columns = [column if at == 0 else other for at, other in enumerate(columns)]
    if kind == 5:
        tables = tables + [Table("extra", ["k"], ["k"])]
        columns = columns[:-1] + ["extra.k"] if dice.random() < 0.5 else columns
    if kind == 6:
        columns = columns[::-1]
    return (tables, links, conditions, columns)


def body_of(tables, links, conditions):
    """The body with these parts, or None."""
    try:
        return Body(tables, links, conditions)
    except (SameTable, Empty, Narrow):
        return None


class Views(unittest.TestCase):
    def check(self, first, second, alike):
        self.assertIs(shown_alike(first, second), alike)
        for one, other in ((first, second), (second, first)):
            store = views_alike(one, other)
            self.assertIs(store is None, alike)
            if not alike:
                tables = {table.name: table for table in (*one.body.tables, *other.body.tables)}
                self.assertEqual(store, Store(list(tables.values()), {name: store[name] for name in store.names}))
                self.assertTrue(all(len(store[name]) <= 1 for name in store.names))
                self.assertNotEqual(shown_rows(one, store), shown_rows(other, store))

    def test_regions(self):
        def view(*conditions):
            return View(Body([GOODS], [], [("goods.kind", sign, number) for sign, number in conditions]),
                        [("code", "goods.code")])
        self.check(view((">", 2)), view((">=", 3)), True)
        self.check(view((">", 2), ("!=", 3)), view((">", 3), ("!=", -5)), True)
        for first, second in (([(">", 2)], [(">", 3)]), ([(">", 2)], []), ([(">", 2)], [("<", 2)]),
                              ([("!=", 2)], [("!=", 3)]), ([("!=", 2)], []), ([("<", 10 ** 40)], [("<=", 10 ** 40)]),
                              ([("=", 2)], []), ([("=", 2)], [("=", 3)]), ([("=", 2)], [("!=", 2)])):
            self.check(view(*first), view(*second), False)

    def test_tables(self):
        other = Table("other", ["k"], ["k"])
        pairs = [("a", "goods.code")]
        self.check(View(Body([GOODS]), pairs), View(Body([GOODS, other], [], [("other.k", "=", 1)]), pairs), False)
        one = View(Body([GOODS]), pairs)
        two = View(Body([other]), [("a", "other.k")])
        self.check(one, two, False)
        turned = Body([GOODS, STOCK], [("goods.code", "stock.code")])
        self.check(LOTS, View(turned, SHOWN), True)

    def test_classes(self):
        ab = plain_tables("ab")
        shown = [("k", "a.k"), ("l", "b.k")]
        bodies = [Body(ab), Body(ab, [("a.x", "b.x")]), Body(ab, [("a.y", "b.x")]), Body(ab, [("a.x", "b.x"), ("a.y", "b.y")])]
        for one in bodies:
            for two in bodies:
                self.check(View(one, shown), View(two, shown), one is two)
        fixed = [("a.x", "=", 1), ("b.x", "=", 1)]
        self.check(View(Body(ab, [("a.x", "b.x")], fixed), shown), View(Body(ab, [], fixed), shown), True)
        self.check(View(Body(ab, [("a.x", "b.x")], fixed), shown), View(Body(ab, [], fixed[:1]), shown), False)

    def test_names(self):
        ab = plain_tables("ab")
        body = Body(ab, [("a.x", "b.x")], [("a.y", "=", 1), ("b.y", "=", 1)])
        keys = [("k", "a.k"), ("l", "b.k")]
        self.check(View(body, [*keys, ("n", "a.x")]), View(body, [*keys, ("n", "b.x")]), True)
        self.check(View(body, [*keys, ("n", "a.y")]), View(body, [*keys, ("n", "b.y")]), True)
        self.check(View(body, [*keys, ("n", "a.x")]), View(body, [*keys, ("n", "b.y")]), False)
        self.check(View(body, keys), View(body, [("k", "b.k"), ("l", "a.k")]), False)

    def test_numbers_that_could_be_equal_by_chance(self):
        ab = plain_tables("ab")
        keys = [("k", "a.k"), ("l", "b.k")]
        for number in range(-1, 7):
            fixed = [("a.y", "=", number)]
            body = Body(ab, [("a.x", "b.x")], fixed)
            self.check(View(body, [*keys, ("n", "a.y")]), View(body, [*keys, ("n", "a.x")]), False)
            self.check(View(body, keys), View(Body(ab, [("a.x", "b.x")]), keys), False)
            self.check(View(body, keys), View(Body(ab, [("a.x", "b.x")], [("a.y", "!=", number)]), keys), False)
            one = Sums(body, [("n", "a.y")], [])
            for column in ("a.k", "a.x", "b.k", "b.y"):
                self.check(one, Sums(body, [("n", column)], []), False)

    def test_sums(self):
        turned = Body([GOODS, STOCK], [("goods.code", "stock.code")])
        self.check(KINDS, Sums(turned, [("kind", "goods.kind")], [("amount", "stock.amount")]), True)
        self.check(Sums(BODY, [("code", "goods.code")], []), Sums(turned, [("code", "stock.code")], []), True)
        self.check(Sums(BODY, [("code", "goods.code")], []), Sums(turned, [("code", "stock.shop")], []), False)
        self.check(Sums(BODY, [], [("n", "goods.kind")]), Sums(BODY, [], [("n", "stock.amount")]), False)
        self.check(Sums(BODY, [], []), Sums(turned, [], []), True)
        self.check(Sums(BODY, [], []), Sums(Body([STOCK, GOODS]), [], []), False)

    def test_errors(self):
        renamed = [("shop", "stock.shop"), ("kode", "stock.code")]
        counts = Sums(BODY, [("shop", "stock.shop"), ("code", "stock.code")], [])
        for first, second in ((PAIRS, LOTS), (PAIRS, View(BODY, renamed)), (PAIRS, View(BODY, SHOWN[1::-1])),
                              (PAIRS, counts), (KINDS, Sums(BODY, [("amount", "goods.kind")], [])),
                              (KINDS, Sums(BODY, [("kind", "goods.kind"), ("amount", "stock.amount")], []))):
            for one, other in ((first, second), (second, first)):
                with self.assertRaises(OtherNames):
                    views_alike(one, other)
        strange = [Table("stock", ("shop", "code", "amount"), ("shop",)), Table("goods", ("code", "sort"), ("code",))]
        shown = [("shop", "stock.shop"), ("code", "stock.code"), ("n", "goods.code")]
        for tables, name in ((strange, "goods"), (strange[::-1], "goods"), ([STOCK, strange[1]], "goods"),
                             ([GOODS, strange[0]], "stock")):
            self.unlike(View(Body([STOCK, GOODS]), shown), View(Body(tables), shown), name)
        self.unlike(PAIRS, View(Body(strange[:1]), shown[:2]), "stock")
        self.unlike(Sums(BODY, [], []), Sums(Body(strange[1:]), [], []), "goods")
        with self.assertRaises(OtherNames):
            views_alike(LOTS, View(Body(strange), [("shop", "stock.shop"), ("code", "goods.code")]))

    def unlike(self, first, second, name):
        """Either order of the two is refused because of the table of this name."""
        for one, two in ((first, second), (second, first)):
            with self.assertRaises(Unlike) as caught:
                views_alike(one, two)
            self.assertEqual(caught.exception.name, name)

    def test_told_in_other_words(self):
        dice = dice_of(181)
        found = {True: 0, False: 0}
        for number in range(700):
            shown = dice.choice([*linked_views(), *linked_sums()]) if number % 3 == 0 else some_shown_view(dice, 3)
            parts = told_parts(dice, shown)
            bent = number % 2 == 1
            tables, links, conditions, columns = bent_parts(dice, *parts) if bent else parts
            body = body_of(tables, links, conditions)
            other = None if body is None else made_like(shown, body, columns)
            if other is not None:
                alike = shown_alike(shown, other)
                if not bent:
                    self.assertIs(alike, True)
                self.check(shown, other, alike)
                found[alike] += 1
                if alike:
                    store = some_store(dice, body.tables, 4, 0)
                    self.assertEqual(shown_rows(shown, store), shown_rows(other, store))
        self.assertGreater(min(found.values()), 100, found)


class TwoRules(unittest.TestCase):
    def check(self, first, second, kind):
        """Hold the answer to point 53; `kind` is that of a write that parts the rules, or None."""
        for one, other in ((first, second), (second, first)):
            parted = rules_alike(one, other)
            self.assertEqual(parted is None, kind is None)
            if kind is not None:
                self.held(one, other, parted)
                self.assertEqual(parted.write.kind, kind)

    def held(self, first, second, parted):
        """Hold a Parted to what put does with both rules."""
        self.assertIs(type(parted), Parted)
        body = first.view.body
        self.assertEqual(parted.store.tables, tuple(sorted(body.tables, key=lambda table: table.name)))
        self.assertIsNone(refusal_of(first.view, parted.store, parted.write))
        told = []
        for rules in (first, second):
            found = put_of(rules, parted.store, parted.write)
            told.append(found if isinstance(found, Edit) else None)
            if told[-1] is not None:
                self.assertEqual(put(rules, parted.store, parted.write), found)
        self.assertEqual((parted.first, parted.second), tuple(told))
        self.assertNotEqual(parted.first, parted.second)

    def test_drop(self):
        def rules(*names):
            return Rules(PAIRS, drop=names)
        self.check(rules("stock"), rules("stock", "goods"), None)
        self.check(rules("goods", "stock"), rules("stock", "goods"), "drop")
        self.check(rules("goods"), rules("goods", "stock"), "drop")
        self.check(rules(), rules("goods"), "drop")
        self.check(rules(), rules(), None)
        everything = Sums(BODY, [], [])
        self.check(Rules(everything, drop=["goods", "stock"]), Rules(everything, drop=["goods"]), None)
        self.check(Rules(everything, drop=["goods"]), Rules(everything, drop=["stock"]), "clear")
        self.check(Rules(everything), Rules(everything, drop=["stock"]), "clear")
        self.check(Rules(KINDS, drop=["goods", "stock"]), Rules(KINDS, drop=["goods"]), None)

    def test_add(self):
        def rules(add, amount=1, kind=2):
            return Rules(PAIRS, add=add, defaults=[("stock.amount", amount), ("goods.kind", kind)])
        for add in ([], ["stock"], ["goods"], ["stock", "goods"]):
            self.check(rules(add), rules(add[::-1]), None)
            self.check(rules(add), rules(add, 3), "add" if "stock" in add else None)
            self.check(rules(add), rules(add, 1, 3), "add" if "goods" in add else None)
            for other in ([], ["stock"], ["goods"], ["stock", "goods"]):
                self.check(rules(add), rules(other), None if add == other else "add")

    def test_change(self):
        tables = plain_tables("ab")
        view = View(Body(tables, [("a.x", "b.k")]), [("k", "a.k"), ("v", "b.x")])

        def rules(*entries):
            return Rules(view, change=entries)
        link = [("v", "a.x", "least"), ("v", "a.x", "greatest")]
        own = [("v", "b.x", "least"), ("v", "b.x", "greatest")]
        lost = [("v", "a.y", "least"), ("k", "a.x", "greatest")]
        self.check(rules(link[0]), rules(link[1]), "change")
        self.check(rules(own[0]), rules(own[1]), None)
        self.check(rules(own[0]), rules(link[0]), "change")
        self.check(rules(own[0]), rules(), "change")
        self.check(rules(*lost), rules(), None)
        self.check(rules(*lost), rules(own[0]), "change")
        self.check(rules(link[0], lost[1]), rules(lost[1], link[0]), None)
        self.check(rules(link[0], lost[1]), rules(link[0]), None)

    def test_total(self):
        words = ["least key", "greatest key", "least value", "greatest value"]
        for first in words:
            self.check(Rules(KINDS, total=[("amount", first)]), Rules(KINDS), "total")
            for second in words:
                self.check(Rules(KINDS, total=[("amount", first)]), Rules(KINDS, total=[("amount", second)]),
                           None if first == second else "total")
        single = Sums(BODY, [("s", "stock.shop"), ("c", "stock.code")], [("amount", "stock.amount")])
        self.check(Rules(single, total=[("amount", words[0])]), Rules(single, total=[("amount", words[3])]), None)
        for bound in ([(">", 0)], [("<", 0)], [("!=", 0), ("!=", 2)]):
            body = Body([STOCK], [], [("stock.amount", *some) for some in bound])
            sums = Sums(body, [], [("n", "stock.amount")])
            for first in words:
                for second in words:
                    self.check(Rules(sums, total=[("n", first)]), Rules(sums, total=[("n", second)]),
                               None if first == second else "total")

    def test_other_view(self):
        turned = Body([GOODS, STOCK], [("goods.code", "stock.code")])
        bound = Body([STOCK, GOODS], [("stock.code", "goods.code")], [("stock.amount", ">", 0)])
        lists = [LOTS, PAIRS, KINDS, View(turned, SHOWN), View(bound, SHOWN), View(BODY, SHOWN[::-1]),
                 View(BODY, [("shop", "stock.code"), ("code", "stock.shop")]),
                 Sums(BODY, [("shop", "stock.shop"), ("code", "stock.code")], []),
                 Sums(BODY, [("kind", "goods.code")], [("amount", "stock.amount")]),
                 Sums(BODY, [("kind", "stock.shop")], [("amount", "goods.kind")]),
                 Sums(BODY, [("kind", "stock.shop")], [("amount", "stock.amount")])]
        for at, first in enumerate(lists):
            for other, second in enumerate(lists):
                if at != other:
                    with self.assertRaises(OtherView):
                        rules_alike(Rules(first), Rules(second))
        same = View(Body([STOCK, GOODS], [("goods.code", "stock.code")]), [("shop", "stock.shop"), ("code", "goods.code")])
        self.check(Rules(PAIRS), Rules(same), None)
        self.check(Rules(PAIRS, drop=["stock"]), Rules(same), "drop")

    def test_against_the_facts(self):
        dice = dice_of(182)
        found = {}
        for number in range(600):
            kinds = (linked_views, linked_sums)
            shown = dice.choice(kinds[number % 2]()) if number % 4 < 2 else (
                sparse_view(dice) if number % 4 == 2 else some_shown_view(dice, 3))
            if is_view(shown) and len(hidden_of(shown)) > 3:
                continue
            first = some_rules(dice, shown)
            second = some_rules(dice, shown)
            if number % 5:
                second = self.with_one_part(first, second, number % 5)
            kinds = rules_parted(first, second)
            parted = rules_alike(first, second)
            self.assertEqual(parted is None, not kinds)
            if parted is None:
                self.same_in_drawn_stores(dice, first, second)
            else:
                self.held(first, second, parted)
                self.assertIn(parted.write.kind, kinds)
            kind = parted and parted.write.kind
            found[kind] = found.get(kind, 0) + 1
        for kind in (None, "drop", "clear", "add", "change", "total"):
            self.assertGreater(found.get(kind, 0), 5, found)

    def with_one_part(self, first, second, part):
        """The first rules with one part of the second ones."""
        lists = {"drop": first.drop_tables, "add": first.add_tables, "defaults": first.defaults,
                 "change": first.change_picks, "total": first.total_words}
        if part == 1:
            lists["drop"] = second.drop_tables
        elif part == 2:
            lists["add"], lists["defaults"] = second.add_tables, second.defaults
        else:
            lists["change"], lists["total"] = second.change_picks, second.total_words
        return Rules(first.view, **lists)

    def same_in_drawn_stores(self, dice, first, second):
        """Both rules choose the same in drawn stores, too."""
        shown = first.view
        store = some_store(dice, shown.body.tables, 3, 0)
        for _ in range(4):
            write = write_by(shown, store, some_edit(dice, store)) or some_write(dice, shown, store)
            if refusal_of(shown, store, write) is None:
                told = [put_of(rules, store, write) for rules in (first, second)]
                self.assertEqual(*[edit if isinstance(edit, Edit) else None for edit in told])

    def test_kinds_of_writes(self):
        parted = rules_alike(Rules(KINDS, total=[("amount", "least key")]), Rules(KINDS))
        self.assertIs(type(parted.write), Total)
        parted = rules_alike(Rules(LOTS, change=[("kind", "goods.kind", "least")]), Rules(LOTS))
        self.assertIs(type(parted.write), Change)
        self.assertIsNone(parted.second)


if __name__ == "__main__":
    unittest.main()
