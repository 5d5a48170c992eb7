"""Points 2, 4 and 5 and the section shownwrites/regions.py."""

import itertools
import unittest

from shownwrites.errors import BadSign, TooFew
from shownwrites.regions import Region, member_outside

BIG = 10 ** 40
WINDOW = range(-9, 10)
ENDS = (None, -2, 0, 1, 3)
GAPS = [list(gaps) for size in range(4) for gaps in itertools.combinations(range(-3, 5), size)]
SIGNS = {
    "=": lambda n, number: n == number,
    "!=": lambda n, number: n != number,
    "<": lambda n, number: n < number,
    "<=": lambda n, number: n <= number,
    ">": lambda n, number: n > number,
    ">=": lambda n, number: n >= number,
}


def parts(region):
    return (region.low, region.high, region.without, region.size, region.value)


def holds(low, high, without, n):
    return (low is None or low <= n) and (high is None or n <= high) and n not in without


class Forms(unittest.TestCase):
    def test_each_small_region(self):
        for low, high, gaps in itertools.product(ENDS, ENDS, GAPS):
            region = Region(low, high, gaps)
            kept = [n for n in WINDOW if holds(low, high, gaps, n)]
            self.assertEqual([n for n in WINDOW if n in region], kept)
            self.check_form(region, low, high, kept)

    def check_form(self, region, low, high, kept):
        if low is not None and high is not None and not kept:
            self.assertEqual(parts(region), (1, 0, (), 0, None))
            self.assertFalse(region)
            return
        self.assertTrue(region)
        self.assertEqual(region.low, None if low is None else kept[0])
        self.assertEqual(region.high, None if high is None else kept[-1])
        first = WINDOW[0] if low is None else kept[0]
        last = WINDOW[-1] if high is None else kept[-1]
        gaps = tuple(n for n in range(first, last + 1) if n not in kept)
        self.assertEqual(region.without, gaps)
        self.assertIs(type(region.without), tuple)
        ended = low is not None and high is not None
        self.assertEqual(region.size, len(kept) if ended else None)
        self.assertEqual(region.value, kept[0] if ended and len(kept) == 1 else None)

    def test_without_arguments(self):
        self.assertEqual(parts(Region()), (None, None, (), None, None))
        self.assertIn(BIG, Region())
        self.assertIn(-BIG, Region())

    def test_crossed_and_equal_ends(self):
        for low, high in ((1, 0), (5, -5), (BIG, BIG - 1), (BIG, -BIG), (-BIG + 1, -BIG)):
            self.assertEqual(parts(Region(low, high)), (1, 0, (), 0, None))
            self.assertEqual(parts(Region(low, high, [low, high, 7])), (1, 0, (), 0, None))
        for end in (0, 1, -1, BIG, -BIG):
            self.assertEqual(parts(Region(end, end)), (end, end, (), 1, end))
            self.assertEqual(parts(Region(end, end, [end])), (1, 0, (), 0, None))

    def test_ends_far_away(self):
        for middle in (0, BIG, -BIG):
            region = Region(middle - 2, middle + 2, [middle - 2, middle, middle + 9, middle])
            self.assertEqual(parts(region), (middle - 1, middle + 2, (middle,), 3, None))
            self.assertEqual([n - middle for n in range(middle - 4, middle + 5) if n in region],
                             [-1, 1, 2])
            self.assertEqual(Region(middle, None, [middle, middle + 1]).low, middle + 2)
            self.assertEqual(Region(None, middle, [middle, middle - 1]).high, middle - 2)
        wide = Region(-BIG, BIG, [0, BIG, -BIG])
        self.assertEqual(parts(wide), (1 - BIG, BIG - 1, (0,), 2 * BIG - 2, None))

    def test_gaps_in_any_order_and_twice(self):
        for gaps in itertools.permutations([5, 3, 5, 8, 0]):
            self.assertEqual(parts(Region(0, 9, gaps)), (1, 9, (3, 5, 8), 6, None))
            self.assertEqual(parts(Region(0, 9, list(gaps))), (1, 9, (3, 5, 8), 6, None))

    def test_gaps_outside_do_not_matter(self):
        self.assertEqual(parts(Region(3, 6, [2, 7, -BIG, BIG])), (3, 6, (), 4, None))
        self.assertEqual(parts(Region(None, 6, [7, BIG])), (None, 6, (), None, None))
        self.assertEqual(parts(Region(3, None, [2, -BIG])), (3, None, (), None, None))

    def test_one_or_none_left(self):
        self.assertEqual(parts(Region(0, 9, [n for n in range(10) if n != 4])), (4, 4, (), 1, 4))
        self.assertEqual(parts(Region(0, 9, range(1, 10))), (0, 0, (), 1, 0))
        self.assertEqual(parts(Region(0, 9, range(9))), (9, 9, (), 1, 9))
        self.assertEqual(parts(Region(0, 9, list(range(10)))), (1, 0, (), 0, None))
        self.assertEqual(parts(Region(0, 2, [0, 2])), (1, 1, (), 1, 1))

    def test_gaps_next_to_a_trimmed_end_go_too(self):
        self.assertEqual(parts(Region(0, 9, [0, 1, 2, 4, 7, 8, 9])), (3, 6, (4,), 3, None))

    def test_the_list_is_copied(self):
        gaps = [3, 5]
        region = Region(0, 9, gaps)
        gaps.append(6)
        gaps[0] = 4
        self.assertEqual(parts(region), (0, 9, (3, 5), 8, None))
        self.assertIn(6, region)
        given = [9, 5, 5, 77]
        Region(0, 9, given)
        self.assertEqual(given, [9, 5, 5, 77])

    def test_many_gaps(self):
        region = Region(0, 40000, range(0, 40000, 2))
        self.assertEqual((region.low, region.high, region.size), (1, 40000, 20001))
        self.assertEqual(len([n for n in range(40001) if n in region]), 20001)


class Relations(unittest.TestCase):
    SAMPLE = [Region(low, high, gaps) for low, high in itertools.product((None, -1, 2), repeat=2)
              for gaps in ([], [0], [2, -1], [3, 1], [-2, 2, 4])]

    def shown(self, region):
        """The members in the window; the ends are so near that this tells all."""
        return [n for n in WINDOW if n in region]

    def test_meet_in_both_orders(self):
        for first, second in itertools.product(self.SAMPLE, repeat=2):
            meet = first & second
            members = [n for n in WINDOW if n in first and n in second]
            self.assertEqual(self.shown(meet), members)
            self.assertEqual(parts(meet), parts(second & first))
            self.assertEqual(meet, second & first)
            endless = (first.low is None and second.low is None
                       or first.high is None and second.high is None)
            self.assertEqual(meet.size, None if endless else len(members))

    def test_meet_of_three(self):
        for first, second, third in itertools.product(self.SAMPLE[::4], repeat=3):
            meet = first & second & third
            self.assertEqual(parts(meet), parts(first & (second & third)))
            self.assertEqual(parts(meet), parts(third & first & second))
            self.assertEqual(self.shown(meet),
                             [n for n in WINDOW if n in first and n in second and n in third])

    def test_meet_keeps_the_one_form(self):
        meet = Region(0, 9, [0, 4, 12]) & Region.of("<", 8)
        self.assertEqual(parts(meet), (1, 7, (4,), 6, None))
        self.assertEqual(parts(Region(0, 5) & Region(5, 9)), (5, 5, (), 1, 5))
        self.assertEqual(parts(Region(0, 5) & Region(6, 9)), (1, 0, (), 0, None))
        self.assertEqual(parts(Region(0, 5) & Region(4, 9, [4, 5])), (1, 0, (), 0, None))
        self.assertEqual(parts(Region(1, 0) & Region()), (1, 0, (), 0, None))
        self.assertEqual(parts(Region(None, BIG) & Region(BIG, None)), (BIG, BIG, (), 1, BIG))

    def test_meet_leaves_both_as_they_were(self):
        first = Region(0, 9, [4])
        second = Region(3, None, [5])
        self.assertEqual(parts(first & second), (3, 9, (4, 5), 5, None))
        self.assertEqual(parts(first), (0, 9, (4,), 9, None))
        self.assertEqual(parts(second), (3, None, (5,), None, None))

    def test_within(self):
        for first, second in itertools.product(self.SAMPLE, repeat=2):
            inside = all(n in second for n in self.shown(first))
            self.assertIs(first.within(second), inside)

    def test_within_at_the_ends(self):
        self.assertTrue(Region(1, 0).within(Region(7, 7)))
        self.assertTrue(Region(1, 0).within(Region(1, 0)))
        self.assertFalse(Region(7, 7).within(Region(1, 0)))
        self.assertTrue(Region(BIG, BIG).within(Region(BIG, None)))
        self.assertFalse(Region(BIG, BIG).within(Region(BIG + 1, None)))
        self.assertFalse(Region(None, 4).within(Region(-BIG, 4)))
        self.assertTrue(Region(-BIG, 4).within(Region(None, 4)))

    def test_equal_if_same_members(self):
        for first, second in itertools.product(self.SAMPLE, repeat=2):
            same = self.shown(first) == self.shown(second)
            self.assertIs(first == second, same)
            self.assertIs(first != second, not same)

    def test_equal_forms(self):
        self.assertEqual(Region(5, 1), Region(0, 0, [0]))
        self.assertEqual(Region(0, 9, [0, 9, 4]), Region(1, 8, (4, 4)))
        self.assertNotEqual(Region(0, 9), Region(0, None))
        self.assertNotEqual(Region(0, 9), Region(None, 9))
        self.assertNotEqual(Region(0, 9), Region(0, 9, [4]))

    def test_other_kinds(self):
        region = Region(4, 4)
        for other in (4, None, "4", (4, 4, ()), [4], {}, object()):
            self.assertIs(region == other, False)
            self.assertIs(region != other, True)
            self.assertIs(other == region, False)


class Outside(unittest.TestCase):
    def test_a_member_of_the_first_alone(self):
        ends = (None, -2, 0, 1, 3)
        regions = [Region(low, high, without) for low, high in itertools.product(ends, ends)
                   for without in ((), (0,), (-1, 1, 2))]
        for first, second in itertools.product(regions, repeat=2):
            number = member_outside(first, second)
            self.assertIs(number is None, first.within(second))
            if number is not None:
                self.assertTrue(number in first and number not in second)


class Texts(unittest.TestCase):
    def test_texts(self):
        expected = [
            (Region(1, 0), "none"), (Region(9, 3, [4]), "none"), (Region(0, 1, [0, 1]), "none"),
            (Region(7, 7), "7"), (Region(-7, -7), "-7"), (Region(0, 0), "0"),
            (Region(0, 2, [0, 2]), "1"), (Region(3, 9), "3..9"), (Region(3), "3.."),
            (Region(None, 9), "..9"), (Region(), ".."), (Region(-9, -3), "-9..-3"),
            (Region(0, 9, [4]), "0..9 but 4"), (Region(0, 9, [8, 4, 0, 6, 9]), "1..7 but 4 6"),
            (Region(8, 9), "8..9"), (Region(None, None, [0]), ".. but 0"),
            (Region(None, 0, [-3, -10, 0]), "..-1 but -10 -3"),
            (Region(0, None, [10, 9, 100]), "0.. but 9 10 100"),
            (Region(BIG, BIG), "1" + "0" * 40), (Region(-BIG, None), "-1" + "0" * 40 + ".."),
        ]
        for region, text in expected:
            self.assertEqual(str(region), text)


class Members(unittest.TestCase):
    def check(self, region, count, apart=()):
        found = region.members(count, apart=apart)
        self.assertIs(type(found), list)
        self.assertEqual(len(found), count)
        self.assertEqual(found, sorted(set(found)))
        for n in found:
            self.assertIn(n, region)
            self.assertNotIn(n, apart)

    def test_endless(self):
        for region in (Region(), Region(5), Region(None, 5), Region(None, -BIG), Region(BIG),
                       Region(None, None, range(-3, 30)), Region(0, None, [1, 2, 5]),
                       Region(None, 0, [-1, -2, -5])):
            for count in (0, 1, 2, 3, 50):
                self.check(region, count)
                self.check(region, count, list(range(-20, 20)))
                self.check(region, count, (BIG, BIG + 1, BIG + 3, -BIG, -BIG - 1))

    def test_as_many_as_there_are(self):
        for region in (Region(0, 9, [4]), Region(1, 0), Region(-3, -3), Region(BIG, BIG + 6, [BIG + 3])):
            self.check(region, region.size)
            self.assertEqual(region.members(region.size),
                             [n for n in range(region.low, region.high + 1) if n in region])
            for more in (1, 2, 100, BIG):
                with self.assertRaises(TooFew) as caught:
                    region.members(region.size + more)
                self.assertEqual(caught.exception.count, region.size + more)

    def test_apart(self):
        region = Region(0, 5, [3])
        self.assertEqual(region.members(3, apart=[0, 4, 4, 3, 77, -1]), [1, 2, 5])
        self.assertEqual(region.members(2, apart=(0, 1, 2)), [4, 5])
        self.assertEqual(region.members(0, apart=range(6)), [])
        for count, apart in ((4, [0, 4, 4]), (1, [0, 1, 2, 4, 5]), (5, [5]), (6, [77])):
            with self.assertRaises(TooFew) as caught:
                region.members(count, apart=apart)
            self.assertEqual(caught.exception.count, count)

    def test_wide_region(self):
        wide = Region(-BIG, BIG)
        self.check(wide, 5)
        self.check(wide, 5, [-BIG, 1 - BIG, 3 - BIG, BIG])
        with self.assertRaises(TooFew):
            wide.members(wide.size + 1)
        with self.assertRaises(TooFew):
            wide.members(wide.size, apart=[0])

    def test_apart_by_keyword_only(self):
        with self.assertRaises(TypeError):
            Region().members(1, [2])

    def test_lists_stay_and_belong_to_the_caller(self):
        apart = [5, 1, 5]
        region = Region(0, 9)
        found = region.members(4, apart=apart)
        self.assertEqual(apart, [5, 1, 5])
        found.append(99)
        self.assertEqual(len(region.members(4, apart=apart)), 4)


class Signs(unittest.TestCase):
    def test_each_sign(self):
        for sign, test in SIGNS.items():
            for number in (-2, -1, 0, 1, 2, BIG, -BIG):
                region = Region.of(sign, number)
                self.assertIsInstance(region, Region)
                for n in [*WINDOW, number - 1, number, number + 1, BIG ** 2, -BIG ** 2]:
                    self.assertIs(n in region, test(n, number), (sign, number, n))

    def test_forms(self):
        self.assertEqual(parts(Region.of("=", 3)), (3, 3, (), 1, 3))
        self.assertEqual(parts(Region.of("!=", 3)), (None, None, (3,), None, None))
        self.assertEqual(parts(Region.of("<", 3)), (None, 2, (), None, None))
        self.assertEqual(parts(Region.of("<=", 3)), (None, 3, (), None, None))
        self.assertEqual(parts(Region.of(">", 3)), (4, None, (), None, None))
        self.assertEqual(parts(Region.of(">=", 3)), (3, None, (), None, None))

    def test_other_strings(self):
        for sign in ("", "==", "<>", "=<", "=>", " =", "= ", "!", "><", "in", "!==", "<<", "=!"):
            with self.assertRaises(BadSign) as caught:
                Region.of(sign, 3)
            self.assertEqual(caught.exception.sign, sign)

    def test_of_an_object(self):
        self.assertEqual(Region(1, 2).of("=", 3), Region(3, 3))


if __name__ == "__main__":
    unittest.main()
