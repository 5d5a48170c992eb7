"""The examples of the document."""

import unittest

from shownwrites.adding import adds
from shownwrites.alike import rules_alike, views_alike
from shownwrites.bodies import Body
from shownwrites.changeverdicts import change_verdict
from shownwrites.changing import changes, totals
from shownwrites.closures import closure, split, steps
from shownwrites.desks import Desk
from shownwrites.dropping import drops
from shownwrites.edits import Edit
from shownwrites.errors import NotPossible
from shownwrites.exchange import exchangeable, inside_case, inside_sets
from shownwrites.fewest import fewest
from shownwrites.puts import put
from shownwrites.refusals import BadLine, InvalidRule, Kept, NoDifference, NoMeaning, NoRule
from shownwrites.regions import Region
from shownwrites.rows import derivations, walk
from shownwrites.rules import Rules
from shownwrites.stores import Store
from shownwrites.sums import Sums
from shownwrites.tables import Table
from shownwrites.texts import Book
from shownwrites.verdicts import add_verdict, drop_verdict
from shownwrites.views import View
from shownwrites.writes import Add, Change, Drop, Total, is_meaning, wanted

ORDERS = Table("orders", ["id", "buyer"], ["id"])
BUYERS = Table("buyers", ["id", "city"], ["id"])
BODY = Body([ORDERS, BUYERS], [("orders.buyer", "buyers.id")], [("buyers.id", ">", 0)])

STOCK = Table("stock", ("shop", "code", "amount"), ("shop", "code"))
GOODS = Table("goods", ("code", "kind"), ("code",))
GOODS_BODY = Body([STOCK, GOODS], [("stock.code", "goods.code")])
STORE = Store([STOCK, GOODS], {"stock": [(1, 7, 20), (1, 8, 4), (2, 7, 5)],
                               "goods": [(7, 3), (8, 3), (9, 6)]})
LOTS = View(GOODS_BODY, [("shop", "stock.shop"), ("code", "stock.code"), ("amount", "stock.amount"),
                         ("kind", "goods.kind")])
PAIRS = View(GOODS_BODY, [("shop", "stock.shop"), ("code", "stock.code")])
KINDS = Sums(GOODS_BODY, [("kind", "goods.kind")], [("amount", "stock.amount")])

CITIES = View(Body([ORDERS, BUYERS], [("orders.buyer", "buyers.id")]), [("id", "orders.id"), ("city", "buyers.city")])
RULES = Rules(LOTS, drop=["goods", "stock"], add=["stock"], change=[("amount", "stock.amount", "least")])


class Examples(unittest.TestCase):
    def test_regions(self):
        region = Region(0, 9, [0, 4, 12]) & Region.of("<", 8)
        self.assertEqual([region.low, region.high, region.without, region.size, str(region)],
                         [1, 7, (4,), 6, "1..7 but 4"])

    def test_bodies(self):
        self.assertEqual([BODY.classes, BODY.head("buyers.id"), str(BODY.region("orders.buyer"))],
                         [(("orders.id",), ("orders.buyer", "buyers.id"), ("buyers.city",)),
                          "orders.buyer", "1.."])
        self.assertEqual([BODY.heads_of("buyers"), BODY.key_heads("buyers"), BODY.fixed("buyers.city")],
                         [("orders.buyer", "buyers.city"), ("orders.buyer",), None])

    def test_edits(self):
        first = Edit([("b", (2,), (2, 5), (2, 6)), ("a", (1,), None, (1, 7))])
        second = Edit([("b", (2,), (2, 6), (2, 5)), ("a", (1,), (1, 7), (1, 8))])
        self.assertEqual([first.changes, (first + second).changes, (-first)["b", (2,)]], [
            (("a", (1,), None, (1, 7)), ("b", (2,), (2, 5), (2, 6))),
            (("a", (1,), None, (1, 8)),), ((2, 6), (2, 5))])

    def test_stores(self):
        table = Table("people", ["id", "city"], ["id"])
        store = Store([table], {"people": [(10, 1), (9, 2)]})
        other = Store([table], {"people": [(9, 3), (2, 2)]})
        self.assertEqual([store["people"], (store - other).changes, other + (store - other) == store], [
            [(9, 2), (10, 1)],
            (("people", (2,), (2, 2), None), ("people", (9,), (9, 3), (9, 2)),
             ("people", (10,), None, (10, 1))), True])

    def test_closures(self):
        self.assertEqual(closure(BODY, ["orders.id"]), ("orders.id", "orders.buyer", "buyers.city"))
        self.assertEqual(closure(BODY, ["orders.id"], using=["buyers"]), ("orders.id",))
        self.assertEqual(steps(BODY, ["orders.id"]),
                         [("orders", ("orders.buyer",)), ("buyers", ("buyers.city",))])
        self.assertEqual([split(BODY, ["orders.id"]), split(BODY, ["buyers.city"]) is None],
                         [None, False])

    def test_rows(self):
        expected = [((1, 7, 20), (7, 3)), ((1, 8, 4), (8, 3)), ((2, 7, 5), (7, 3))]
        self.assertEqual(derivations(GOODS_BODY, STORE), expected)
        self.assertEqual(list(walk(GOODS_BODY, STORE)), expected)

    def test_sums(self):
        self.assertEqual(KINDS(STORE), [((3,), 3, (29,))])
        self.assertEqual(KINDS.origins(STORE, (3,)), [
            ((1, 7, 20), (7, 3)), ((1, 8, 4), (8, 3)), ((2, 7, 5), (7, 3))])

    def test_writes(self):
        self.assertEqual(wanted(LOTS, STORE, Add((2, 8, 1, 3))),
                         [(1, 7, 20, 3), (1, 8, 4, 3), (2, 7, 5, 3), (2, 8, 1, 3)])
        self.assertEqual(wanted(KINDS, STORE, Total((3,), "amount", 30)), [((3,), 3, (30,))])
        with self.assertRaises(NoDifference) as caught:
            wanted(LOTS, STORE, Change((2, 7, 5, 3), "amount", 5))
        self.assertEqual(caught.exception.value, 5)
        self.assertIs(is_meaning(LOTS, STORE, Change((1, 8, 4, 3), "kind", 6),
                                 Edit([("goods", (8,), (8, 3), (8, 6))])), True)
        self.assertIs(is_meaning(LOTS, STORE, Change((2, 7, 5, 3), "kind", 6),
                                 Edit([("goods", (7,), (7, 3), (7, 6))])), False)

    def test_dropping(self):
        people = Table("people", ["id", "city"], ["id"])
        orders = Table("orders", ["id", "person"], ["id"])
        store = Store([people, orders], {"people": [(1, 10), (2, 20)], "orders": [(5, 1), (6, 1), (7, 2)]})
        body = Body([orders, people], [("orders.person", "people.id")])
        view = View(body, [("order", "orders.id"), ("city", "people.city")])
        self.assertEqual(view(store), [(5, 10), (6, 10), (7, 20)])
        self.assertEqual([edit.changes for edit in drops(view, store, (5, 10), ["people", "orders"])],
                         [(("orders", (5,), (5, 1), None),)])
        self.assertEqual([edit.changes for edit in drops(view, store, (7, 20), ["people", "orders"])],
                         [(("orders", (7,), (7, 2), None),), (("people", (2,), (2, 20), None),)])

    def test_adding(self):
        adding = adds(LOTS, STORE, (2, 9, 1, 6), ["stock"])
        self.assertEqual([adding.count, [edit.changes for edit in adding.told], adding.endless],
                         [1, [(("stock", (2, 9), None, (2, 9, 1)),)], False])
        adding = adds(PAIRS, STORE, (2, 8), ["stock", "goods"])
        self.assertEqual([adding.count, [edit[("stock", (2, 8))] for edit in adding.told], adding.endless],
                         [1, [(None, (2, 8, 4)), (None, (2, 8, 5)), (None, (2, 8, 20))], True])
        self.assertIs(adds(LOTS, STORE, (2, 9, 1, 3), ["stock", "goods"]).count is None, True)

    def test_changing(self):
        found = changes(LOTS, STORE, (1, 8, 4, 3), "kind", 6, ["goods.kind"])
        self.assertEqual([edit.changes for edit in found], [(("goods", (8,), (8, 3), (8, 6)),)])
        self.assertEqual(changes(LOTS, STORE, (2, 7, 5, 3), "kind", 6, ["goods.kind", "stock.amount"]), [])
        self.assertEqual([edit[("stock", (2, 7))] for edit in totals(KINDS, STORE, (3,), "amount", 30)
                          if ("stock", (2, 7)) in edit], [((2, 7, 5), (2, 7, 6))])

    def test_exchange(self):
        columns = ["orders.id", "buyers.city"]
        self.assertEqual(exchangeable(BODY, columns), [("orders",), ("orders", "buyers")])
        self.assertEqual(inside_sets(BODY, columns), [("orders",), ("orders", "buyers")])
        with self.assertRaises(NotPossible) as caught:
            inside_case(BODY, ["orders.id"], ["buyers"])
        self.assertEqual(caught.exception.names, ("buyers",))

    def test_verdicts(self):
        self.assertEqual([drop_verdict(CITIES, ["orders"]).always_one, drop_verdict(CITIES, ["buyers"]).always_one],
                         [True, False])
        verdict = drop_verdict(CITIES, ["buyers", "orders"])
        self.assertEqual([verdict.none is None, len(verdict.some.meanings), len(verdict.several.meanings)],
                         [True, 1, 2])
        verdict = add_verdict(CITIES, ["orders"])
        self.assertEqual([verdict.none is None, verdict.some is None, verdict.several is None],
                         [False, False, False])

    def test_changeverdicts(self):
        verdict = change_verdict(CITIES, "city", ["buyers.city"])
        self.assertEqual([verdict.none is None, verdict.some is None, verdict.several is None],
                         [False, False, True])
        verdict = change_verdict(CITIES, "city", ["buyers.city", "orders.buyer"])
        self.assertEqual([edit.sets for edit in verdict.several.meanings], [1, 1])

    def test_rules(self):
        self.assertEqual(Rules(PAIRS, add=["stock"], defaults=[("stock.amount", 0)]).asked, ("stock.amount",))
        with self.assertRaises(InvalidRule) as caught:
            Rules(PAIRS, add=["stock"])
        self.assertEqual(caught.exception.part, "defaults")

    def test_puts(self):
        self.assertEqual(put(RULES, STORE, Drop((2, 7, 5, 3))).changes, (("stock", (2, 7), (2, 7, 5), None),))
        self.assertEqual(put(RULES, STORE, Drop((1, 8, 4, 3))).changes, (("goods", (8,), (8, 3), None),))
        with self.assertRaises(NoMeaning):
            put(RULES, STORE, Add((2, 8, 1, 6)))
        with self.assertRaises(NoRule) as caught:
            put(RULES, STORE, Change((1, 7, 20, 3), "kind", 6))
        self.assertEqual(caught.exception.kind, "change")

    def test_alike(self):
        one = View(Body([GOODS], [], [("goods.kind", ">", 2)]), [("code", "goods.code")])
        two = View(Body([GOODS], [], [("goods.kind", ">=", 3)]), [("code", "goods.code")])
        self.assertIs(views_alike(one, two) is None, True)
        self.assertIs(rules_alike(Rules(PAIRS, drop=["stock"]), Rules(PAIRS, drop=["stock", "goods"])) is None, True)
        parted = rules_alike(Rules(PAIRS, drop=["goods"]), Rules(PAIRS, drop=["goods", "stock"]))
        self.assertEqual([parted.first is None, parted.second.deletes], [True, 1])

    def test_fewest(self):
        wish = [("buyers.city", ["buyers.city", "orders.buyer"])]
        found = fewest(CITIES.body, ["orders.id", "buyers.city"], change=wish)
        self.assertEqual([found.columns, [heads for heads, paper in found.papers]],
                         [("orders.id", "orders.buyer", "buyers.city"), [("orders.id", "buyers.city")]])

    def test_texts(self):
        text = ("table goods\ncolumns code kind\nkey code\nview all\nfrom goods\nwhere goods.kind > 2\n"
                "where goods.kind != 3\nshow code goods.code\n")
        self.assertEqual(str(Book.read(text)), "table goods\ncolumns code kind\nkey code\nview all\nfrom goods\n"
                                               "where goods.kind >= 4\nshow code goods.code\n")
        with self.assertRaises(BadLine) as caught:
            Book.read("table goods\ncolumns  code\nkey code\n")
        self.assertEqual((caught.exception.line, caught.exception.reason), (2, "words"))

    def test_desks(self):
        book = Book([STOCK, GOODS], [("lots", LOTS), ("kinds", KINDS)],
                    [("lots", RULES), ("kinds", Rules(KINDS, total=[("amount", "least value")]))])
        desk = Desk(book, STORE)
        sheet = desk.sheet("kinds")
        sheet[(3,), "amount"] = 31
        self.assertEqual(desk.store["stock"], [(1, 7, 20), (1, 8, 6), (2, 7, 5)])
        self.assertEqual(desk.undo().changes, (("stock", (1, 8), (1, 8, 6), (1, 8, 4)),))
        self.assertEqual(sheet[(3,), "amount"], 29)
        desk.keep("lots")
        with self.assertRaises(Kept) as caught:
            desk.put("kinds", Total((3,), "amount", 31))
        self.assertEqual(caught.exception.name, "lots")


if __name__ == "__main__":
    unittest.main()
