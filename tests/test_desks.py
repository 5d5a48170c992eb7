"""Points 2 and 63 to 69 and the section shownwrites/desks.py."""

import unittest

from shownwrites.bodies import Body
from shownwrites.desks import Desk, Sheet
from shownwrites.edits import Edit
from shownwrites.errors import InvalidRow, Misfit, NotShown, NoTable, ShownError
from shownwrites.refusals import (AlreadyShown, Kept, NoMeaning, NoName, NothingToRedo, NothingToUndo, NotKept,
                                  NoRule, NoView, WrongKind, WrongLength, WrongStore)
from shownwrites.rules import Rules
from shownwrites.stores import Store
from shownwrites.sums import Sums
from shownwrites.tables import Table
from shownwrites.texts import Book
from shownwrites.views import View
from shownwrites.writes import Add, Change, Clear, Drop, Total, wanted
from tests.reference import contents_of, dice_of, plain_tables, shown_rows, some_edit, some_store, some_write, store_after, write_by
from tests.slow_rules import put_of
from tests.slow_texts import some_book

STOCK = Table("stock", ("shop", "code", "amount"), ("shop", "code"))
GOODS = Table("goods", ("code", "kind"), ("code",))
BODY = Body([STOCK, GOODS], [("stock.code", "goods.code")])
ROWS = {"stock": [(1, 7, 20), (1, 8, 4), (2, 7, 5)], "goods": [(7, 3), (8, 3), (9, 6)]}
STORE = Store([STOCK, GOODS], ROWS)
LOTS = View(BODY, [("shop", "stock.shop"), ("code", "stock.code"), ("amount", "stock.amount"),
                   ("kind", "goods.kind")])
KINDS = Sums(BODY, [("kind", "goods.kind")], [("amount", "stock.amount")])
ALL = View(Body([GOODS]), [("code", "goods.code"), ("count", "goods.kind")])
BOOK = Book([STOCK, GOODS], [("lots", LOTS), ("kinds", KINDS), ("all", ALL)], [
    ("lots", Rules(LOTS, drop=["stock"], add=["stock"], change=[("amount", "stock.amount", "least"),
                                                                 ("kind", "goods.kind", "least")])),
    ("kinds", Rules(KINDS, drop=["stock"], total=[("amount", "least value")]))])
MORE = Edit([("goods", (5,), None, (5, 5))])


class Lost(Exception):
    """An error of a caller."""


def state_of(desk):
    """All that a desk shows of its state; the history is walked to both ends and back."""
    history = []
    book, kept = desk.book, desk.kept
    loose = Desk(book, desk.store)
    loose.__dict__.update(vars(desk))
    loose.kept = ()
    for step, end in ((loose.undo, NothingToUndo), (loose.redo, NothingToRedo)):
        try:
            while True:
                history.append(step().changes)
        except end:
            pass
    return (desk.store, kept, history)


class Basics(unittest.TestCase):
    def test_begin(self):
        desk = Desk(BOOK)
        self.assertEqual((desk.store, desk.kept), (Store([GOODS, STOCK]), ()))
        self.assertIs(desk.book, BOOK)
        store = Store([GOODS, STOCK], ROWS)
        self.assertIs(Desk(BOOK, store).store, store)
        self.assertEqual(Desk(Book([])).store, Store([]))

    def test_wrong_store(self):
        other = Table("goods", ("code", "sort"), ("code",))
        for tables in ([], [STOCK], [GOODS], [STOCK, other], [STOCK, GOODS, Table("more", ["k"], ["k"])]):
            with self.assertRaises(WrongStore):
                Desk(BOOK, Store(tables))
        same = [Table("stock", ["shop", "code", "amount"], ["code", "shop"]), Table("goods", ["code", "kind"], ["code"])]
        self.assertEqual(len(Desk(BOOK, Store(same)).store), 0)

    def test_put(self):
        desk = Desk(BOOK, STORE)
        edit = desk.put("lots", Drop((2, 7, 5, 3)))
        self.assertEqual(edit, Edit([("stock", (2, 7), (2, 7, 5), None)]))
        self.assertEqual(desk.store, STORE + edit)
        self.assertEqual(desk.rows_of("kinds"), [((3,), 2, (24,))])
        edit = desk.put("kinds", Total((3,), "amount", 25))
        self.assertEqual(edit, Edit([("stock", (1, 8), (1, 8, 4), (1, 8, 5))]))
        self.assertEqual(desk.rows_of("lots"), [(1, 7, 20, 3), (1, 8, 5, 3)])

    def test_put_without_rules(self):
        desk = Desk(BOOK, STORE)
        for write, error in ((Clear((7,)), WrongKind("clear")), (Drop((7,)), WrongLength((7,))), (Drop((7, 4)), NotShown((7, 4))),
                             (Add((7, 3)), AlreadyShown((7, 3))), (Drop((7, 3)), NoRule("drop")), (Add((4, 4)), NoRule("add")),
                             (Change((7, 3), "kind", 4), NoName("kind")), (Change((7, 3), "count", 4), NoRule("change"))):
            with self.assertRaises(type(error)) as caught:
                desk.put("all", write)
            self.assertEqual(vars(caught.exception), vars(error))
        self.assertEqual(state_of(desk), (STORE, (), []))

    def test_apply(self):
        desk = Desk(BOOK, STORE)
        self.assertIsNone(desk.apply(MORE))
        self.assertEqual(desk.store, STORE + MORE)
        for edit, error in ((MORE, Misfit(("goods", (5,)))), (Edit([("none", (1,), None, (1,))]), NoTable("none")),
                            (Edit([("goods", (1,), None, (1,))]), InvalidRow("goods", (1,)))):
            with self.assertRaises(type(error)) as caught:
                desk.apply(edit)
            self.assertEqual(vars(caught.exception), vars(error))
        self.assertEqual(state_of(desk), (STORE + MORE, (), [(-MORE).changes, MORE.changes]))

    def test_a_store_that_was_read_stays(self):
        desk = Desk(BOOK, STORE)
        desk.apply(MORE)
        read = desk.store
        desk.put("lots", Drop((2, 7, 5, 3)))
        desk.undo()
        desk.undo()
        self.assertEqual(read, Store([STOCK, GOODS], {**ROWS, "goods": [*ROWS["goods"], (5, 5)]}))
        self.assertEqual(STORE, Store([STOCK, GOODS], ROWS))

    def test_rows_of(self):
        desk = Desk(BOOK, STORE)
        for name, shown in BOOK.views:
            self.assertEqual(desk.rows_of(name), shown.rows(STORE))
            desk.rows_of(name).clear()
            self.assertEqual(desk.rows_of(name), shown.rows(STORE))

    def test_no_view_before_all_else(self):
        desk = Desk(BOOK, STORE)
        for name in ("", "stock", "Lots", "none"):
            for call in (lambda: desk.put(name, Clear(())), lambda: desk.put(name, Drop((1,))), lambda: desk.keep(name),
                         lambda: desk.release(name), lambda: desk.sheet(name), lambda: Sheet(desk, name),
                         lambda: desk.rows_of(name)):
                with self.assertRaises(NoView) as caught:
                    call()
                self.assertEqual(caught.exception.name, name)


class History(unittest.TestCase):
    def test_undo_and_redo(self):
        desk = Desk(BOOK, STORE)
        with self.assertRaises(NothingToUndo):
            desk.undo()
        first = desk.put("lots", Drop((2, 7, 5, 3)))
        desk.apply(MORE)
        with self.assertRaises(NothingToRedo):
            desk.redo()
        self.assertEqual(desk.undo(), -MORE)
        self.assertEqual(desk.undo(), -first)
        self.assertEqual(desk.store, STORE)
        with self.assertRaises(NothingToUndo):
            desk.undo()
        self.assertEqual(desk.redo(), first)
        self.assertEqual(desk.redo(), MORE)
        self.assertEqual(desk.store, STORE + first + MORE)
        with self.assertRaises(NothingToRedo):
            desk.redo()

    def test_new_edits_end_redoing(self):
        for step in (lambda desk: desk.apply(Edit()), lambda desk: desk.put("lots", Drop((1, 8, 4, 3)))):
            desk = Desk(BOOK, STORE)
            desk.apply(MORE)
            desk.undo()
            step(desk)
            with self.assertRaises(NothingToRedo):
                desk.redo()
            desk.undo()
            with self.assertRaises(NothingToUndo):
                desk.undo()
        # What fails ends nothing.
        desk = Desk(BOOK, STORE)
        desk.apply(MORE)
        desk.undo()
        with self.assertRaises(Misfit):
            desk.apply(-MORE)
        with self.assertRaises(NoMeaning):
            desk.put("lots", Add((2, 6, 1, 6)))
        self.assertEqual(desk.redo(), MORE)

    def test_edits_without_changes_count(self):
        desk = Desk(BOOK, STORE)
        desk.apply(MORE)
        desk.apply(Edit())
        self.assertEqual(desk.undo(), Edit())
        self.assertEqual(desk.undo(), -MORE)
        self.assertEqual([desk.redo(), desk.redo()], [MORE, Edit()])

    def test_many_steps(self):
        table = Table("t", ["k", "v"], ["k"])
        view = View(Body([table]), [("k", "t.k"), ("v", "t.v")])
        desk = Desk(Book([table], [("v", view)], [("v", Rules(view, change=[("v", "t.v", "least")]))]),
                    Store([table], {"t": [(1, 0)]}))
        many = 3000
        for number in range(many):
            desk.put("v", Change((1, number), "v", number + 1))
        for number in range(many):
            desk.undo()
        self.assertEqual(desk.store["t"], [(1, 0)])
        for number in range(many):
            desk.redo()
        self.assertEqual(desk.store["t"], [(1, many)])


class Keeping(unittest.TestCase):
    def refused(self, desk, name, step):
        before = state_of(desk)
        with self.assertRaises(Kept) as caught:
            step()
        self.assertEqual(caught.exception.name, name)
        self.assertEqual(state_of(desk), before)

    def test_each_step(self):
        desk = Desk(BOOK, STORE)
        first = desk.put("lots", Drop((2, 7, 5, 3)))
        desk.apply(MORE)
        self.assertIsNone(desk.keep("lots"))
        self.assertEqual(desk.kept, ("lots",))
        self.refused(desk, "lots", lambda: desk.put("kinds", Total((3,), "amount", 25)))
        self.refused(desk, "lots", lambda: desk.apply(-first))
        desk.undo()
        self.refused(desk, "lots", desk.undo)
        desk.release("lots")
        desk.undo()
        desk.keep("lots")
        self.refused(desk, "lots", desk.redo)
        desk.apply(MORE)
        self.assertEqual(desk.undo(), -MORE)

    def test_order(self):
        desk = Desk(BOOK, STORE)
        for name in ("kinds", "all", "lots", "kinds", "all"):
            self.assertIsNone(desk.keep(name))
        self.assertEqual(desk.kept, ("kinds", "all", "lots"))
        self.refused(desk, "kinds", lambda: desk.put("lots", Drop((2, 7, 5, 3))))
        self.refused(desk, "all", lambda: desk.apply(MORE))
        self.refused(desk, "kinds", lambda: desk.apply(Edit([("goods", (7,), (7, 3), None)])))
        self.assertIsNone(desk.release("kinds"))
        self.refused(desk, "lots", lambda: desk.put("lots", Drop((2, 7, 5, 3))))
        desk.keep("kinds")
        self.assertEqual(desk.kept, ("all", "lots", "kinds"))
        self.refused(desk, "lots", lambda: desk.put("lots", Drop((2, 7, 5, 3))))
        # The totals of a kept view of sums count, too, but not rows that it does not show.
        desk.release("lots")
        self.refused(desk, "kinds", lambda: desk.put("lots", Change((2, 7, 5, 3), "amount", 6)))
        desk.apply(Edit([("stock", (3, 3), None, (3, 3, 3))]))

    def test_not_kept(self):
        desk = Desk(BOOK, STORE)
        desk.keep("all")
        for name in ("lots", "kinds"):
            with self.assertRaises(NotKept) as caught:
                desk.release(name)
            self.assertEqual(caught.exception.name, name)
        self.assertEqual(desk.kept, ("all",))

    def test_kept_comes_last(self):
        desk = Desk(BOOK, STORE)
        for name in ("lots", "kinds", "all"):
            desk.keep(name)
        for write, error in ((Clear((3,)), WrongKind), (Drop((2, 7, 6, 3)), NotShown), (Add((2, 6, 1, 6)), NoMeaning),
                             (Change((2, 7, 5, 3), "shop", 3), NoRule)):
            with self.assertRaises(error):
                desk.put("lots", write)
        with self.assertRaises(Misfit):
            desk.apply(Edit([("goods", (7,), (7, 4), None)]))
        with self.assertRaises(NothingToUndo):
            desk.undo()
        with self.assertRaises(NothingToRedo):
            desk.redo()


class Attempts(unittest.TestCase):
    def test_result(self):
        desk = Desk(BOOK, STORE)
        for result in (None, 0, [1], desk):
            self.assertIs(desk.attempt(lambda given, some=result: some), result)
        found = desk.attempt(lambda given: given.put("lots", Drop((2, 7, 5, 3))))
        self.assertEqual(desk.store, STORE + found)
        self.assertEqual(desk.attempt(Desk.undo), -found)

    def test_any_error(self):
        def spoil(desk, error):
            desk.apply(MORE)
            desk.undo()
            desk.undo()
            desk.keep("all")
            desk.release("lots")
            desk.put("lots", Drop((2, 7, 5, 3)))
            raise error
        for error in (NoMeaning(Drop(())), Lost(), KeyError("a"), KeyboardInterrupt(), SystemExit(1)):
            desk = Desk(BOOK, STORE)
            desk.apply(Edit())
            desk.apply(MORE)
            desk.undo()
            desk.keep("lots")
            before = state_of(desk)
            with self.assertRaises(type(error)) as caught:
                desk.attempt(lambda given, why=error: spoil(given, why))
            self.assertIs(caught.exception, error)
            self.assertEqual(state_of(desk), before)
            self.assertIs(desk.store, before[0])
            self.assertEqual(desk.redo(), MORE)

    def test_nested(self):
        desk = Desk(BOOK, STORE)
        first, second = Edit([("goods", (1,), None, (1, 1))]), Edit([("goods", (2,), None, (2, 2))])

        def inner(given):
            given.apply(second)
            given.keep("all")
            raise Lost()

        def outer(given, end):
            given.apply(first)
            given.keep("kinds")
            try:
                given.attempt(inner)
            except Lost:
                pass
            self.assertEqual((given.store, given.kept), (STORE + first, ("kinds",)))
            given.attempt(lambda again: again.apply(second))
            if end:
                raise Lost()
            return 5
        with self.assertRaises(Lost):
            desk.attempt(lambda given: outer(given, True))
        self.assertEqual(state_of(desk), (STORE, (), []))
        self.assertEqual(desk.attempt(lambda given: outer(given, False)), 5)
        self.assertEqual((desk.store, desk.kept), (STORE + first + second, ("kinds",)))
        self.assertEqual([desk.undo(), desk.undo()], [-second, -first])

    def test_error_of_a_step(self):
        desk = Desk(BOOK, STORE)

        def twice(given):
            given.put("lots", Drop((2, 7, 5, 3)))
            given.put("lots", Drop((2, 7, 5, 3)))
        with self.assertRaises(NotShown):
            desk.attempt(twice)
        self.assertEqual(state_of(desk), (STORE, (), []))


class Sheets(unittest.TestCase):
    def refused(self, error, call):
        with self.assertRaises(type(error)) as caught:
            call()
        self.assertEqual(vars(caught.exception), vars(error))

    def test_view(self):
        desk = Desk(BOOK, STORE)
        sheet = desk.sheet("lots")
        self.assertIs(type(sheet), Sheet)
        self.assertEqual((sheet.desk, sheet.name, len(sheet)), (desk, "lots", 3))
        same = sheet
        sheet += (2, 8, 1, 3)
        self.assertIs(sheet, same)
        self.assertEqual(desk.store["stock"], [(1, 7, 20), (1, 8, 4), (2, 7, 5), (2, 8, 1)])
        sheet -= (1, 8, 4, 3)
        self.assertIs(sheet, same)
        sheet[(2, 7, 5, 3), "amount"] = 6
        self.assertEqual(sheet.listed(), [(1, 7, 20, 3), (2, 7, 6, 3), (2, 8, 1, 3)])
        self.assertEqual(sheet.listed(), LOTS(desk.store))
        self.assertEqual([sheet[(2, 7, 6, 3), name] for name in LOTS.names], [2, 7, 6, 3])
        self.assertEqual([(2, 7, 6, 3) in sheet, (2, 7, 5, 3) in sheet, (2,) in sheet], [True, False, False])
        self.assertEqual(desk.undo(), Edit([("stock", (2, 7), (2, 7, 6), (2, 7, 5))]))

    def test_sums(self):
        desk = Desk(BOOK, STORE)
        sheet = desk.sheet("kinds")
        self.assertEqual((len(sheet), sheet.listed()), (1, [((3,), 3, (29,))]))
        self.assertEqual([sheet[(3,), "amount"], sheet[(3,), "count"]], [29, 3])
        self.assertEqual([(3,) in sheet, (6,) in sheet, ((3,), 3, (29,)) in sheet], [True, False, False])
        sheet[(3,), "amount"] = 31
        self.assertEqual(sheet[(3,), "amount"], 31)
        same = sheet
        sheet -= (3,)
        self.assertIs(sheet, same)
        self.assertEqual((len(sheet), sheet.listed(), desk.store["stock"]), (0, [], []))

        def add(given):
            given += (6,)
        self.refused(WrongKind("add"), lambda: add(sheet))

    def test_refusals(self):
        desk = Desk(BOOK, STORE)
        lots, kinds, every = [desk.sheet(name) for name in ("lots", "kinds", "all")]
        self.refused(NotShown((2, 7, 6, 3)), lambda: lots[(2, 7, 6, 3), "none"])
        self.refused(NotShown((2,)), lambda: lots[(2,), "amount"])
        self.refused(NoName("none"), lambda: lots[(2, 7, 5, 3), "none"])
        self.refused(NoName("count"), lambda: lots[(2, 7, 5, 3), "count"])
        self.refused(NotShown((4,)), lambda: kinds[(4,), "count"])
        self.refused(NotShown(()), lambda: kinds[(), "none"])
        for name in ("kind", "none", ""):
            self.refused(NoName(name), lambda: kinds[(3,), name])
        # A view may show a column as count.
        self.assertEqual(every[(7, 3), "count"], 3)

        def change(given, row, name, value):
            given[row, name] = value

        def drop(given, row):
            given -= row
        self.refused(NoName("count"), lambda: change(kinds, (3,), "count", 4))
        self.refused(NotShown((4,)), lambda: change(kinds, (4,), "none", 4))
        self.refused(NoRule("change"), lambda: change(lots, (2, 7, 5, 3), "shop", 4))
        self.refused(WrongLength((3,)), lambda: drop(lots, (3,)))
        self.refused(NotShown((4,)), lambda: drop(kinds, (4,)))
        self.refused(NoRule("drop"), lambda: drop(every, (7, 3)))
        desk.keep("lots")
        self.refused(Kept("lots"), lambda: change(kinds, (3,), "amount", 4))
        self.assertEqual(state_of(desk), (STORE, ("lots",), []))

    def test_not_iterated_over(self):
        desk = Desk(BOOK, STORE)
        for name in ("lots", "kinds"):
            with self.assertRaises(TypeError):
                iter(desk.sheet(name))
            with self.assertRaises(TypeError):
                list(desk.sheet(name))

    def test_all_see_the_same_store(self):
        desk = Desk(BOOK, STORE)
        first, second, kinds = desk.sheet("lots"), Sheet(desk, "lots"), desk.sheet("kinds")
        first -= (1, 7, 20, 3)
        self.assertEqual(second.listed(), [(1, 8, 4, 3), (2, 7, 5, 3)])
        self.assertEqual(kinds[(3,), "count"], 2)
        desk.undo()
        self.assertEqual(len(second), 3)
        rows = second.listed()
        rows.clear()
        self.assertEqual(len(first.listed()), 3)


class Reading(unittest.TestCase):
    """What only reads a sheet leaves the desk, its store and its history as they were."""

    def desk_with_history(self):
        """A desk with a kept view, with edits that are done and an edit that is taken back."""
        desk = Desk(BOOK, STORE)
        desk.put("lots", Drop((2, 7, 5, 3)))
        desk.apply(MORE)
        desk.keep("all")
        desk.apply(Edit())
        desk.put("kinds", Total((3,), "amount", 30))
        desk.undo()
        return desk

    def told(self, call):
        """What the call returns, or the error that it raises with what it holds."""
        try:
            return call()
        except (NotShown, NoName) as error:
            return (type(error), vars(error))

    def check(self, name, read, expected):
        desk = self.desk_with_history()
        sheet = desk.sheet(name)
        store, state, held = desk.store, state_of(desk), contents_of((vars(desk), vars(sheet)))
        for _ in range(3):
            self.assertEqual(self.told(lambda: read(sheet)), expected)
            self.assertIs(desk.store, store)
            self.assertEqual(state_of(desk), state)
            self.assertEqual(contents_of((vars(desk), vars(sheet))), held)
        self.assertEqual(store, Store([STOCK, GOODS], {"stock": [(1, 7, 20), (1, 8, 4)],
                                                       "goods": [(5, 5), (7, 3), (8, 3), (9, 6)]}))
        self.assertEqual(desk.redo(), Edit([("stock", (1, 8), (1, 8, 4), (1, 8, 10))]))
        self.assertEqual([desk.undo().sets, desk.undo()], [1, Edit()])

    def test_item_of_a_view(self):
        for name, number in (("shop", 1), ("code", 8), ("amount", 4), ("kind", 3)):
            self.check("lots", lambda sheet, of=name: sheet[(1, 8, 4, 3), of], number)
        for row in ((2, 7, 5, 3), (1, 8), ()):
            self.check("lots", lambda sheet, of=row: sheet[of, "none"], (NotShown, {"row": row}))
        self.check("lots", lambda sheet: sheet[(1, 8, 4, 3), "count"], (NoName, {"name": "count"}))

    def test_item_of_sums(self):
        for name, number in (("amount", 24), ("count", 2)):
            self.check("kinds", lambda sheet, of=name: sheet[(3,), of], number)
        for group in ((5,), (3, 3), ()):
            self.check("kinds", lambda sheet, of=group: sheet[of, "none"], (NotShown, {"row": group}))
        self.check("kinds", lambda sheet: sheet[(3,), "kind"], (NoName, {"name": "kind"}))

    def test_contained(self):
        for row, shown in (((1, 8, 4, 3), True), ((1, 7, 20, 3), True), ((2, 7, 5, 3), False), ((1,), False)):
            self.check("lots", lambda sheet, of=row: of in sheet, shown)
        for group, shown in (((3,), True), ((6,), False), ((3, 2, 24), False), ((), False)):
            self.check("kinds", lambda sheet, of=group: of in sheet, shown)

    def test_length(self):
        for name, many in (("lots", 2), ("kinds", 1), ("all", 4)):
            self.check(name, len, many)

    def test_drawn_books(self):
        dice = dice_of(213)
        seen = {}
        for _ in range(150):
            book = some_book(dice)
            desk = Desk(book, some_store(dice, book.tables, 3, 0))
            edits = [some_edit(dice, desk.store) for _ in range(4)]
            fitting = [edit for edit in edits if store_after(desk.store, edit) is not None]
            for edit in [Edit(), *fitting[:1]]:
                desk.apply(edit)
                desk.apply(-edit)
                desk.undo()
            for name, shown in book.views:
                sheet = desk.sheet(name)
                store, held = desk.store, contents_of((vars(desk), vars(sheet)))
                rows = shown_rows(shown, store)
                self.assertEqual(len(sheet), len(rows))
                if isinstance(shown, View):
                    numbers = {row: dict(zip(shown.names, row)) for row in rows}
                else:
                    numbers = {group: {"count": count, **dict(zip(shown.total_names, totals))}
                               for group, count, totals in rows}
                for row in numbers:
                    self.assertEqual([row in sheet, (*row, 0) in sheet], [True, False])
                    self.assertEqual({name: sheet[row, name] for name in numbers[row]}, numbers[row])
                self.assertIs(desk.store, store)
                self.assertEqual(contents_of((vars(desk), vars(sheet))), held)
                seen[type(shown)] = seen.get(type(shown), 0) + len(rows)
        self.assertGreater(min(seen[View], seen[Sums]), 50)

    def test_soon(self):
        """Trying all combinations of rows would never end here."""
        tables = plain_tables("abcdef")
        links = [("a.x", "d.k"), ("b.x", "e.k"), ("c.x", "f.k")]
        shown = [("a", "a.k"), ("b", "b.k"), ("c", "c.k")]
        many = 60
        for far, count in ((many, 0), (many - 1, 1)):
            rows = {name: [(n, n, n) for n in range(many)] for name in "def"}
            rows.update({name: [(n, n + far, n) for n in range(many)] for name in "abc"})
            view = View(Body(tables, links), shown)
            sums = Sums(view.body, [("b", "b.k")], [("total", "a.y")])
            desk = Desk(Book(tables, [("view", view), ("sums", sums)]), Store(tables, rows))
            view_sheet, sums_sheet = desk.sheet("view"), desk.sheet("sums")
            self.assertEqual([len(view_sheet), len(sums_sheet)], [count, count])
            self.assertEqual([(0, 0, 0) in view_sheet, (0,) in sums_sheet], [count == 1, count == 1])
        self.assertEqual([view_sheet[(0, 0, 0), "b"], sums_sheet[(0,), "count"]], [0, 1])


class PlainDesk:
    """A desk that keeps all stores and edits of its history in lists."""

    def __init__(self, book, store):
        self.book, self.stores, self.edits, self.at, self.kept = book, [store], [], 0, []

    def put(self, name, write):
        shown = dict(self.book.views)[name]
        rules = dict(self.book.rules).get(name, Rules(shown))
        found = put_of(rules, self.stores[self.at], write)
        return found if isinstance(found, tuple) else self.apply(found)

    def apply(self, edit):
        after = store_after(self.stores[self.at], edit)
        if after is None:
            return "no"
        if self.hindered(after):
            return self.hindered(after)
        self.stores[self.at + 1:] = [after]
        self.edits[self.at:] = [edit]
        self.at += 1
        return edit

    def hindered(self, after):
        """Kept, if a kept view would change."""
        for name in self.kept:
            shown = dict(self.book.views)[name]
            if shown_rows(shown, after) != shown_rows(shown, self.stores[self.at]):
                return ("Kept", name)
        return None

    def step(self, way):
        """Undo for -1, redo for 1."""
        if not 0 <= self.at + way < len(self.stores):
            return ("NothingToUndo",) if way < 0 else ("NothingToRedo",)
        if self.hindered(self.stores[self.at + way]):
            return self.hindered(self.stores[self.at + way])
        self.at += way
        return -self.edits[self.at] if way < 0 else self.edits[self.at - 1]


class LongRows(unittest.TestCase):
    def told(self, call):
        try:
            return call()
        except (NoTable, InvalidRow, Misfit):
            return "no"
        except ShownError as error:
            return (type(error).__name__, *vars(error).values())

    def one_step(self, dice, desk, plain):
        """Do the same step with both; what each of them says."""
        store = plain.stores[plain.at]
        names = [name for name, _ in plain.book.views]
        kind = dice.choice(["put", "put", "put", "apply", "undo", "undo", "redo", "keep", "release"])
        if kind in ("undo", "redo"):
            return (kind, self.told(getattr(desk, kind)), plain.step(-1 if kind == "undo" else 1))
        edit = some_edit(dice, store) if dice.random() < 0.9 else Edit()
        if kind == "apply" or not names:
            found = self.told(lambda: desk.apply(edit))
            return ("apply", edit if found is None else found, plain.apply(edit))
        name = dice.choice(names)
        shown = dict(plain.book.views)[name]
        if kind == "put":
            write = write_by(shown, store, edit) or some_write(dice, shown, store)
            return (kind, self.told(lambda: desk.put(name, write)), plain.put(name, write))
        if kind == "keep" and dice.random() < 0.6:
            plain.kept += [] if name in plain.kept else [name]
            return (kind, desk.keep(name), None)
        expected = None if name in plain.kept else ("NotKept", name)
        plain.kept = [other for other in plain.kept if other != name]
        return (kind, self.told(lambda: desk.release(name)), expected)

    def test_against_a_plain_history(self):
        dice = dice_of(211)
        seen = {}
        for _ in range(60):
            book = some_book(dice)
            store = some_store(dice, book.tables, 3, 0)
            desk, plain = Desk(book, store), PlainDesk(book, store)
            for _ in range(60):
                before = desk.store
                kind, found, expected = self.one_step(dice, desk, plain)
                self.assertEqual(found, expected)
                self.assertEqual(desk.store, plain.stores[plain.at])
                self.assertEqual(desk.kept, tuple(plain.kept))
                if isinstance(found, Edit):
                    self.assertEqual(before + found, desk.store)
                word = found[0] if isinstance(found, tuple) else type(found).__name__
                seen[kind, word] = seen.get((kind, word), 0) + 1
        for kind in ("put", "apply", "undo", "redo"):
            for word in ("Edit", "Kept"):
                self.assertGreater(seen.get((kind, word), 0), 3, seen)
        self.assertGreater(seen.get(("put", "NoMeaning"), 0), 0, seen)

    def test_wanted_rows_are_shown(self):
        dice = dice_of(212)
        count = 0
        for _ in range(300):
            book = some_book(dice)
            desk = Desk(book, some_store(dice, book.tables, 3, 0))
            for name, shown in book.views:
                edit = some_edit(dice, desk.store)
                write = write_by(shown, desk.store, edit) or some_write(dice, shown, desk.store)
                before = desk.store
                if isinstance(self.told(lambda: desk.put(name, write)), Edit):
                    count += 1
                    self.assertEqual(desk.rows_of(name), wanted(shown, before, write))
        self.assertGreater(count, 20)


if __name__ == "__main__":
    unittest.main()
