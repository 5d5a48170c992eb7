"""Parts of bodies, which adding and exchange need, and the conditions that make a region."""

import itertools
import unittest

from shownwrites.parts import linked_names, part_body, subsets
from shownwrites.regions import Region, conditions_of, meet
from tests.reference import dice_of, some_body


class Subsets(unittest.TestCase):
    def test_in_the_order_of_their_places(self):
        for names in ((), ("b",), ("c", "a", "b"), tuple("fbdace")):
            for size in range(len(names) + 2):
                self.assertEqual(subsets(names, size), list(itertools.combinations(names, size)))


class PartBodies(unittest.TestCase):
    def test_classes_and_regions(self):
        dice = dice_of(131)
        for _ in range(100):
            body = some_body(dice, 5)
            names = dice.sample(body.names, dice.randint(1, len(body.names)))
            part = part_body(body, names)
            self.assertEqual(part.tables, tuple(table for table in body.tables if table.name in names))
            inside = [tuple(column for column in members if column.partition(".")[0] in names)
                      for members in body.classes]
            self.assertEqual(sorted(part.classes), sorted(members for members in inside if members))
            for members in part.classes:
                self.assertEqual(part.region(members[0]), body.region(members[0]))

    def test_linked_names(self):
        heads = {"a": ["x"], "b": ["y"], "c": ["x", "z"], "d": ["z"], "e": []}
        self.assertEqual(sorted(linked_names("abcde", heads)), [("a", "c", "d"), ("b",), ("e",)])
        self.assertEqual(sorted(linked_names("dab", heads)), [("a",), ("b",), ("d",)])
        self.assertEqual(linked_names("", heads), [])


class Conditions(unittest.TestCase):
    def test_they_make_the_region(self):
        ends = (None, -1, 0, 2, 5)
        for low, high, gap in itertools.product(ends, ends, (None, 0, 1, 5)):
            region = Region(low, high, [] if gap is None else [gap, 3])
            told = conditions_of(region)
            self.assertEqual(meet([Region.of(sign, number) for sign, number in told]), region)

    def test_forms(self):
        self.assertEqual(conditions_of(Region(4, 4)), [("=", 4)])
        self.assertEqual(conditions_of(Region()), [])
        self.assertEqual(conditions_of(Region(1, None, [3, 2])), [(">=", 1), ("!=", 2), ("!=", 3)])
        self.assertEqual(conditions_of(Region(None, 1)), [("<=", 1)])
        self.assertEqual(conditions_of(Region(0, 9, [4])), [(">=", 0), ("<=", 9), ("!=", 4)])


if __name__ == "__main__":
    unittest.main()
