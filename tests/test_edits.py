"""Points 2, 7 and 8 and the section shownwrites/edits.py."""

import unittest

from shownwrites.edits import Edit
from shownwrites.errors import Clash, InvalidChange, NoChange, SamePlace
from tests.reference import dice_of

INSERT = ("a", (1,), None, (1, 7))
DELETE = ("b", (2,), (2, 5), None)
SET = ("c", (3, 4), (3, 4, 5), (3, 4, 6))


def some_history(dice, length, places):
    """Edits that follow one another, and the rows that are held at the end, by places."""
    held = {}
    edits = []
    for _ in range(length):
        changes = []
        for place in dice.sample(places, dice.randint(0, 3)):
            now = held.get(place)
            new = dice.choice([row for row in (None, 1, 2, 3) if row != (now and now[-1])])
            after = None if new is None else (*place[1], new)
            changes.append((*place, now, after))
            held[place] = after
        edits.append(Edit(changes))
    return edits, {place: row for place, row in held.items() if row is not None}


class Changes(unittest.TestCase):
    def test_order_by_place(self):
        keys = [(-(10 ** 20),), (-100,), (-99,), (-10,), (-9,), (-1,), (0,), (1,), (2,), (9,), (9, 0),
                (9, 10), (10,), (10, 9), (99,), (100,), (10 ** 20 - 1,), (10 ** 20,)]
        changes = [(name, key, None, key) for name in ("a", "a1", "a_", "ab", "b") for key in keys]
        dice = dice_of(21)
        for _ in range(20):
            mixed = list(changes)
            dice.shuffle(mixed)
            self.assertEqual(Edit(mixed).changes, tuple(changes))
            self.assertEqual(list(Edit(tuple(mixed))), changes)

    def test_order_is_not_that_of_rows(self):
        changes = [("a", (2,), (9, 2), None), ("a", (10,), None, (1, 10)), ("b", (1,), None, (0, 1))]
        self.assertEqual(Edit(changes[::-1]).changes, tuple(changes))

    def test_numbers_of_each_kind(self):
        for given, deletes, inserts, sets in (
                ([], 0, 0, 0), ([INSERT], 0, 1, 0), ([DELETE], 1, 0, 0), ([SET], 0, 0, 1),
                ([INSERT, DELETE, SET], 1, 1, 1),
                ([SET, ("c", (3, 5), (3, 5, 0), (3, 5, 1)), ("d", (1,), (1,), None)], 1, 0, 2)):
            edit = Edit(given)
            self.assertEqual((edit.deletes, edit.inserts, edit.sets), (deletes, inserts, sets))
            self.assertEqual(len(edit), len(given))
            self.assertIs(bool(edit), bool(given))

    def test_empty(self):
        for edit in (Edit(), Edit([]), Edit(())):
            self.assertEqual((edit.changes, len(edit), list(edit), bool(edit)), ((), 0, [], False))
            self.assertNotIn(("a", (1,)), edit)
        self.assertEqual(Edit(), Edit([]))

    def test_places(self):
        edit = Edit([SET, INSERT, DELETE])
        self.assertEqual(edit[("a", (1,))], (None, (1, 7)))
        self.assertEqual(edit["b", (2,)], ((2, 5), None))
        self.assertEqual(edit[("c", (3, 4))], ((3, 4, 5), (3, 4, 6)))
        self.assertIs(type(edit["a", (1,)]), tuple)
        for name, key, _, _ in edit:
            self.assertIs((name, key) in edit, True)
        for place in (("a", (2,)), ("b", (1,)), ("c", (3,)), ("c", (4, 3)), ("c", (3, 4, 5)), ("d", (1,)),
                      ("a", ())):
            self.assertIs(place in edit, False)
            with self.assertRaises(NoChange) as caught:
                edit[place]
            self.assertEqual(caught.exception.place, place)
        with self.assertRaises(NoChange):
            Edit()["a", (1,)]

    def test_iteration(self):
        edit = Edit([SET, INSERT, DELETE])
        self.assertEqual(list(edit), [INSERT, DELETE, SET])
        self.assertEqual([change for change in edit], [INSERT, DELETE, SET])
        self.assertEqual(edit.changes, (INSERT, DELETE, SET))
        self.assertIs(type(edit.changes), tuple)

    def test_knows_no_tables(self):
        edit = Edit([("a", (1,), (5, 6, 7), (8,)), ("no name!", (), None, ())])
        self.assertEqual(edit["a", (1,)], ((5, 6, 7), (8,)))
        self.assertEqual(edit["no name!", ()], (None, ()))

    def test_faults_change_by_change(self):
        still = ("a", (5,), (5, 1), (5, 1))
        nothing = ("a", (6,), None, None)
        for changes, kind, field, told in (
                ([still], InvalidChange, "change", still),
                ([nothing], InvalidChange, "change", nothing),
                ([INSERT, still, nothing], InvalidChange, "change", still),
                ([INSERT, nothing, still], InvalidChange, "change", nothing),
                ([INSERT, INSERT], SamePlace, "place", ("a", (1,))),
                ([DELETE, INSERT, ("a", (1,), (1, 7), None)], SamePlace, "place", ("a", (1,))),
                ([SET, DELETE, DELETE, SET], SamePlace, "place", ("b", (2,))),
                ([INSERT, INSERT, still], SamePlace, "place", ("a", (1,))),
                ([INSERT, still, INSERT], InvalidChange, "change", still),
                ([INSERT, ("a", (1,), (1,), (1,))], InvalidChange, "change", ("a", (1,), (1,), (1,)))):
            for given in (changes, tuple(changes)):
                with self.assertRaises(kind) as caught:
                    Edit(given)
                self.assertEqual(getattr(caught.exception, field), told)

    def test_equality(self):
        edit = Edit([SET, INSERT, DELETE])
        self.assertTrue(edit == Edit([DELETE, SET, INSERT]))
        self.assertFalse(edit != Edit([DELETE, SET, INSERT]))
        for other in (Edit(), Edit([SET, INSERT]), Edit([SET, INSERT, ("b", (2,), (2, 6), None)]),
                      Edit([SET, INSERT, ("b", (3,), (2, 5), None)]), -edit, None, edit.changes,
                      [INSERT, DELETE, SET], 3):
            self.assertIs(edit == other, False)
            self.assertIs(edit != other, True)

    def test_lists_are_copied(self):
        changes = [SET, INSERT]
        edit = Edit(changes)
        self.assertEqual(changes, [SET, INSERT])
        changes.append(DELETE)
        changes[0] = DELETE
        self.assertEqual(edit.changes, (INSERT, SET))
        self.assertEqual((len(edit), edit.deletes, ("b", (2,)) in edit), (2, 0, False))


class Sums(unittest.TestCase):
    def test_at_different_places(self):
        self.assertEqual((Edit([SET]) + Edit([INSERT, DELETE])).changes, (INSERT, DELETE, SET))
        self.assertEqual((Edit([INSERT, DELETE]) + Edit([SET])).changes, (INSERT, DELETE, SET))

    def test_at_one_place(self):
        rows = [None, (1, 5), (1, 6), (1, 7)]
        for before in rows:
            for middle in rows:
                for after in rows:
                    if before != middle and middle != after:
                        total = (Edit([("a", (1,), before, middle)]) + Edit([("a", (1,), middle, after)]))
                        expected = () if before == after else (("a", (1,), before, after),)
                        self.assertEqual(total.changes, expected)

    def test_empty_edit(self):
        edit = Edit([SET, INSERT])
        self.assertEqual(edit + Edit(), edit)
        self.assertEqual(Edit() + edit, edit)
        self.assertEqual(Edit() + Edit(), Edit())

    def test_clash_at_the_least_place(self):
        first = Edit([("a", (9,), None, (9, 1)), ("a", (10,), None, (10, 1)), ("b", (1,), (1, 1), None)])
        for changes, place in (
                ([("a", (10,), (10, 2), None), ("a", (9,), None, (9, 1))], ("a", (9,))),
                ([("b", (1,), (1, 1), None), ("a", (10,), (10, 2), None)], ("a", (10,))),
                ([("b", (1,), (1, 2), (1, 1)), ("a", (10,), (10, 1), None)], ("b", (1,))),
                ([("b", (1,), (1, 1), (1, 2)), ("c", (0,), None, (0,)), ("a", (0,), None, (0,))],
                 ("b", (1,)))):
            with self.assertRaises(Clash) as caught:
                first + Edit(changes)
            self.assertEqual(caught.exception.place, place)
        with self.assertRaises(Clash):
            Edit([INSERT]) + Edit([INSERT])

    def test_both_stay_as_they_were(self):
        first = Edit([INSERT, SET])
        second = Edit([("a", (1,), (1, 7), None), DELETE])
        self.assertEqual((first + second).changes, (DELETE, SET))
        self.assertEqual(first.changes, (INSERT, SET))
        self.assertEqual(second.changes, (("a", (1,), (1, 7), None), DELETE))

    def test_undoing(self):
        edit = Edit([SET, INSERT, DELETE])
        self.assertEqual((-edit).changes, (("a", (1,), (1, 7), None), ("b", (2,), None, (2, 5)),
                                           ("c", (3, 4), (3, 4, 6), (3, 4, 5))))
        self.assertEqual(-(-edit), edit)
        self.assertEqual(edit + -edit, Edit())
        self.assertEqual(-edit + edit, Edit())
        self.assertEqual(-Edit(), Edit())
        self.assertEqual(edit.changes, (INSERT, DELETE, SET))

    def test_long_histories(self):
        dice = dice_of(22)
        places = [(name, (key,)) for name in ("a", "b") for key in (-1, 0, 9, 10, 99, 100, 10 ** 20)]
        for length in (0, 1, 2, 5, 60):
            edits, held = some_history(dice, length, places)
            left = Edit()
            for edit in edits:
                left = left + edit
            right = Edit()
            for edit in reversed(edits):
                right = edit + right
            expected = {place: (None, row) for place, row in held.items()}
            self.assertEqual({place: left[place] for place in [c[:2] for c in left]}, expected)
            self.assertEqual(left, right)
            self.assertEqual(left, self.in_parts(edits))
            undone = Edit()
            for edit in edits:
                undone = -edit + undone
            self.assertEqual(undone, -left)
            self.assertEqual(left + undone, Edit())

    def in_parts(self, edits):
        """The sum of the edits, halves first."""
        if len(edits) < 2:
            return edits[0] if edits else Edit()
        middle = len(edits) // 2
        return self.in_parts(edits[:middle]) + self.in_parts(edits[middle:])


class Within(unittest.TestCase):
    def test_within(self):
        edit = Edit([SET, INSERT, DELETE])
        for part in ([], [SET], [DELETE], [INSERT, SET], [SET, INSERT, DELETE]):
            self.assertIs(Edit(part).within(edit), True)
            self.assertIs(edit.within(Edit(part)), len(part) == 3)
        for other in (("a", (1,), None, (1, 8)), ("a", (1,), (1, 7), None), ("a", (2,), None, (1, 7)),
                      ("b", (1,), None, (1, 7)), ("a", (1,), (1, 6), (1, 7))):
            self.assertIs(Edit([other]).within(edit), False)
            self.assertIs(Edit([other, SET]).within(edit), False)
        self.assertIs(Edit().within(Edit()), True)
        self.assertIs(edit.within(Edit()), False)


if __name__ == "__main__":
    unittest.main()
