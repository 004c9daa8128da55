"""[13]: Ranges, and [2] where it speaks of them."""

import unittest
from fractions import Fraction
from itertools import permutations, product

from formatwords.errors import NoRange
from formatwords.fractions import rounded
from formatwords.ranges import Range, joined, rounds_to
from tests.helper import MODES, NO_TEXTS, fraction_of, python_of, refusal, rounded_by, signature_of

GREAT = 10 ** 59 + 7
ENDS = (None, (-1, 1), (0, 1), (1, 1), (2, 1))
# Every end of ENDS, and one beside each.
POINTS = [fraction_of(Fraction(top, 2)) for top in range(-6, 9)]


def all_ranges():
    """All Ranges that there are with these ends."""
    ranges = []
    for low, high, low_in, high_in in product(ENDS, ENDS, (True, False), (True, False)):
        try:
            ranges.append(Range(low, high, low_in=low_in, high_in=high_in))
        except NoRange:
            pass
    return ranges


def fields(one):
    return one.low, one.high, one.low_in, one.high_in


def points_in(ranges):
    """By the fields alone: the points that one of these Ranges has."""
    told = []
    for point in POINTS:
        here = python_of(point)
        for low, high, low_in, high_in in [fields(one) for one in ranges]:
            above = low is None or python_of(low) < here or (low_in and low == point)
            below = high is None or here < python_of(high) or (high_in and high == point)
            if above and below:
                told.append(point)
                break
    return told


class TestRange(unittest.TestCase):
    def test_fields(self):
        for low_in, high_in in product((True, False), (True, False)):
            one = Range((-1, 2), (3, 1), low_in=low_in, high_in=high_in)
            self.assertEqual(fields(one), ((-1, 2), (3, 1), low_in, high_in))
        self.assertEqual(fields(Range((0, 1), (1, 1))), ((0, 1), (1, 1), True, True))

    def test_without_end(self):
        for low_in, high_in in product((True, False), (True, False)):
            self.assertEqual(fields(Range(None, (3, 1), low_in=low_in, high_in=high_in)),
                (None, (3, 1), False, high_in))
            self.assertEqual(fields(Range((3, 1), None, low_in=low_in, high_in=high_in)), ((3, 1), None, low_in, False))
            self.assertEqual(fields(Range(None, None, low_in=low_in, high_in=high_in)), (None, None, False, False))
        for one in (Range(None, None), Range(None, (1, 1)), Range((1, 1), None)):
            self.assertIs(type(one.low_in), bool)
            self.assertIs(type(one.high_in), bool)

    def test_one_fraction_alone(self):
        self.assertEqual(fields(Range((2, 3), (2, 3))), ((2, 3), (2, 3), True, True))
        for low_in, high_in in ((True, False), (False, True), (False, False)):
            refusal(self, NoRange, Range, (2, 3), (2, 3), low_in=low_in, high_in=high_in)

    def test_nothing_in_it(self):
        for low, high in (((1, 1), (0, 1)), ((1, 2), (1, 3)), ((-1, 3), (-1, 2)), ((GREAT, 1), (GREAT - 1, 1)),
                          ((0, 1), (-1, GREAT)), ((1, 2), (-5, 1))):
            for low_in, high_in in product((True, False), (True, False)):
                refusal(self, NoRange, Range, low, high, low_in=low_in, high_in=high_in)

    def test_order_is_that_of_fractions(self):
        # Not that of tuples: 1/3 is below 1/2, and 2/7 below 1/3.
        Range((1, 3), (1, 2))
        Range((2, 7), (1, 3))
        Range((-5, 1), (-1, 7))

    def test_has(self):
        for one in all_ranges():
            self.assertEqual([point for point in POINTS if one.has(point)], points_in([one]))
        for low_in, high_in in product((True, False), (True, False)):
            one = Range((-1, 2), (3, 1), low_in=low_in, high_in=high_in)
            self.assertIs(one.has((-1, 2)), low_in)
            self.assertIs(one.has((3, 1)), high_in)
            self.assertIs(one.has((0, 1)), True)
            self.assertIs(one.has((-1 - GREAT, 2 * GREAT)), False)
            self.assertIs(one.has((1 - GREAT, 2 * GREAT)), True)
            self.assertIs(one.has((3 * GREAT + 1, GREAT)), False)
            self.assertIs(one.has((3 * GREAT - 1, GREAT)), True)
        self.assertIs(Range(None, None).has((-GREAT, 3)), True)
        self.assertIs(Range(None, (0, 1)).has((-GREAT, 3)), True)
        self.assertIs(Range((0, 1), None).has((-GREAT, 3)), False)

    def test_meet(self):
        for one, other in product(all_ranges(), all_ranges()):
            told = one.meet(other)
            both = [point for point in points_in([one]) if point in points_in([other])]
            self.assertEqual([] if told is None else points_in([told]), both)
            self.assertEqual(told, other.meet(one))
            if told is not None:
                self.assertIs(type(told), Range)

    def test_meet_of_told_ones(self):
        rows = [
            (Range((0, 1), (2, 1)), Range((1, 1), (3, 1)), "[1, 2]"),
            (Range((0, 1), (2, 1), high_in=False), Range((1, 1), (3, 1), low_in=False), "(1, 2)"),
            (Range((0, 1), (1, 1)), Range((1, 1), (3, 1)), "[1, 1]"),
            (Range((0, 1), (5, 1)), Range((1, 2), (3, 1), low_in=False), "(1/2, 3]"),
            (Range(None, (5, 1)), Range((1, 2), None), "[1/2, 5]"),
            (Range(None, None), Range(None, None), "(.., ..)"),
            (Range(None, (1, 1)), Range(None, (1, 1), high_in=False), "(.., 1)"),
        ]
        for one, other, text in rows:
            self.assertEqual(str(one.meet(other)), text)
            self.assertEqual(str(other.meet(one)), text)
        for one, other in (
            (Range((0, 1), (1, 1)), Range((1, 1), (3, 1), low_in=False)),
            (Range((0, 1), (1, 1), high_in=False), Range((1, 1), (3, 1))),
            (Range((0, 1), (1, 1)), Range((2, 1), (3, 1))),
            (Range(None, (1, 1)), Range((2, 1), None)),
        ):
            self.assertIs(one.meet(other), None)
            self.assertIs(other.meet(one), None)

    def test_meet_changes_neither(self):
        one, other = Range((0, 1), (2, 1)), Range((1, 1), (3, 1), low_in=False)
        one.meet(other)
        self.assertEqual((fields(one), fields(other)), (((0, 1), (2, 1), True, True), ((1, 1), (3, 1), False, True)))

    def test_str(self):
        rows = [
            (Range((-1, 2), (3, 1), high_in=False), "[-1/2, 3)"), (Range(None, (3, 1)), "(.., 3]"),
            (Range(None, (3, 1), high_in=False), "(.., 3)"), (Range((3, 1), None), "[3, ..)"),
            (Range((3, 1), None, low_in=False), "(3, ..)"), (Range(None, None), "(.., ..)"),
            (Range((0, 1), (0, 1)), "[0, 0]"), (Range((-7, 3), (-2, 9), low_in=False), "(-7/3, -2/9]"),
            (Range((-7, 3), (2, 9), low_in=False, high_in=False), "(-7/3, 2/9)"),
            (Range((1, GREAT), (GREAT, 1)), f"[1/{GREAT}, {GREAT}]"), (Range((-10, 1), (10, 1)), "[-10, 10]"),
        ]
        for one, text in rows:
            self.assertEqual(str(one), text)

    def test_str_of_ends_beyond_the_figures_that_python_writes(self):
        self.assertEqual(str(Range((0, 1), (10 ** 5000, 1))), "[0, 1" + "0" * 5000 + "]")

    def test_equal(self):
        ranges = all_ranges()
        for one, other in product(ranges, ranges):
            self.assertIs(one == other, fields(one) == fields(other))
            self.assertIs(one != other, fields(one) != fields(other))
        self.assertEqual(Range(None, (1, 1), low_in=True), Range(None, (1, 1), low_in=False))
        self.assertEqual(Range((1, 1), None, high_in=True), Range((1, 1), None, high_in=False))

    def test_equal_to_nothing_else(self):
        one = Range((0, 1), (1, 1))
        others = [thing for thing in NO_TEXTS if not isinstance(thing, Range)]
        for thing in others + ["[0, 1]", "", ((0, 1), (1, 1), True, True), [(0, 1), (1, 1)]]:
            self.assertIs(one == thing, False)
            self.assertIs(thing == one, False)
            self.assertIs(one != thing, True)

    def test_arguments(self):
        self.assertEqual(signature_of(Range), [
            ("low", False, "none"), ("high", False, "none"), ("low_in", True, True), ("high_in", True, True)])
        self.assertEqual(str(Range(high_in=False, low=(0, 1), low_in=True, high=(1, 1))), "[0, 1)")
        self.assertRaises(TypeError, Range, (0, 1), (1, 1), True)
        one = Range((0, 1), (1, 1))
        self.assertIs(one.has(number=(1, 2)), True)
        self.assertEqual(one.meet(other=one), one)
        for name in ("has", "meet", "__eq__", "__str__", "__init__"):
            self.assertIn(name, vars(Range))


class TestJoined(unittest.TestCase):
    def texts(self, ranges):
        return [str(one) for one in joined(ranges)]

    def test_none_and_one(self):
        self.assertEqual(joined([]), [])
        for one in all_ranges():
            self.assertEqual(joined([one]), [one])
            self.assertEqual(joined([one, one, one]), [one])

    def test_told_ones(self):
        rows = [
            ([Range((0, 1), (2, 1)), Range((1, 1), (3, 1))], ["[0, 3]"]),
            ([Range((0, 1), (1, 1)), Range((1, 1), (3, 1), low_in=False)], ["[0, 3]"]),
            ([Range((0, 1), (1, 1), high_in=False), Range((1, 1), (3, 1))], ["[0, 3]"]),
            ([Range((0, 1), (1, 1), high_in=False), Range((1, 1), (3, 1), low_in=False)], ["[0, 1)", "(1, 3]"]),
            ([Range((0, 1), (1, 1), high_in=False), Range((1, 1), (3, 1), low_in=False), Range((1, 1), (1, 1))],
             ["[0, 3]"]),
            ([Range((0, 1), (9, 1)), Range((1, 1), (3, 1)), Range((4, 1), (5, 1))], ["[0, 9]"]),
            ([Range((0, 1), (9, 1), low_in=False, high_in=False), Range((0, 1), (9, 1))], ["[0, 9]"]),
            ([Range((0, 1), (9, 1), low_in=False), Range((0, 1), (9, 1), high_in=False)], ["[0, 9]"]),
            ([Range((5, 1), None), Range(None, (1, 1)), Range((2, 1), (3, 1))], ["(.., 1]", "[2, 3]", "[5, ..)"]),
            ([Range((0, 1), None), Range(None, (1, 1))], ["(.., ..)"]),
            ([Range((0, 1), None, low_in=False), Range(None, (0, 1), high_in=False)], ["(.., 0)", "(0, ..)"]),
            ([Range(None, (1, 1)), Range(None, (2, 1), high_in=False)], ["(.., 2)"]),
            ([Range((1, 1), None), Range((2, 1), None)], ["[1, ..)"]),
            ([Range(None, None), Range((2, 1), (2, 1))], ["(.., ..)"]),
            ([Range((1, 1), (1, 1)), Range((2, 1), (2, 1)), Range((0, 1), (0, 1))], ["[0, 0]", "[1, 1]", "[2, 2]"]),
            ([Range((1, 2), (1, 2)), Range((1, 3), (1, 3)), Range((2, 5), (2, 5))],
             ["[1/3, 1/3]", "[2/5, 2/5]", "[1/2, 1/2]"]),
        ]
        for ranges, texts in rows:
            for order in permutations(ranges):
                self.assertEqual(self.texts(list(order)), texts)

    def looked(self, ranges):
        told = joined(ranges)
        self.assertEqual(points_in(told), points_in(ranges))
        for one, other in zip(told, told[1:]):
            # Rising, with something between, if but one point: so they are as few as can be.
            self.assertTrue(python_of(one.high) <= python_of(other.low))
            if one.high == other.low:
                self.assertFalse(one.high_in or other.low_in)

    def test_all_pairs(self):
        for one, other in product(all_ranges(), all_ranges()):
            self.looked([one, other])

    def test_all_threes_of_some(self):
        some = [one for one in all_ranges() if one.high != (2, 1) and one.low != (2, 1)]
        for one, other, third in product(some[::2], some, some[::3]):
            self.looked([one, other, third])

    def test_the_list_stays(self):
        ranges = [Range((1, 1), (3, 1)), Range((0, 1), (2, 1)), Range((5, 1), (6, 1))]
        before = list(ranges)
        told = joined(ranges)
        self.assertEqual([fields(one) for one in ranges], [fields(one) for one in before])
        self.assertIsNot(told, ranges)
        told.append(Range(None, None))
        told[0] = None
        self.assertEqual(len(ranges), 3)
        self.assertTrue(all(one is other for one, other in zip(ranges, before)))
        self.assertEqual(self.texts(ranges), ["[0, 3]", "[5, 6]"])
        told.clear()
        self.assertEqual(self.texts(ranges), ["[0, 3]", "[5, 6]"])

    def test_a_list_of_one_is_new_too(self):
        ranges = [Range((1, 1), (3, 1))]
        told = joined(ranges)
        self.assertIsNot(told, ranges)
        told.clear()
        self.assertEqual(len(ranges), 1)
        empty = []
        joined(empty).append(1)
        self.assertEqual(empty, [])
        self.assertEqual(joined([]), [])

    def test_arguments(self):
        self.assertEqual(signature_of(joined), [("ranges", False, "none")])
        self.assertEqual(joined(ranges=[]), [])
        self.assertIs(type(joined([])), list)


class TestRoundsTo(unittest.TestCase):
    def test_told_ones(self):
        rows = [
            ("down", ["(-3, -2]", "(-2, -1]", "(-1, 1)", "[1, 2)", "[2, 3)"]),
            ("up", ["[-2, -1)", "[-1, 0)", "[0, 0]", "(0, 1]", "(1, 2]"]),
            ("floor", ["[-2, -1)", "[-1, 0)", "[0, 1)", "[1, 2)", "[2, 3)"]),
            ("roof", ["(-3, -2]", "(-2, -1]", "(-1, 0]", "(0, 1]", "(1, 2]"]),
            ("half", ["(-5/2, -3/2]", "(-3/2, -1/2]", "(-1/2, 1/2)", "[1/2, 3/2)", "[3/2, 5/2)"]),
            ("even", ["[-5/2, -3/2]", "(-3/2, -1/2)", "[-1/2, 1/2]", "(1/2, 3/2)", "[3/2, 5/2]"]),
        ]
        for mode, texts in rows:
            self.assertEqual([str(rounds_to(whole, mode=mode)) for whole in range(-2, 3)], texts)

    def test_just_those(self):
        for mode in MODES:
            for whole in list(range(-9, 10)) + [GREAT, -GREAT, GREAT + 1, -GREAT - 1]:
                told = rounds_to(whole, mode=mode)
                for half in range(-4, 5):
                    for beside in (-Fraction(1, GREAT), 0, Fraction(1, GREAT)):
                        number = whole + Fraction(half, 2) + beside
                        self.assertIs(told.has(fraction_of(number)), rounded_by(number, mode) == whole)
                        self.assertIs(told.has(fraction_of(number)), rounded(fraction_of(number), mode=mode) == whole)

    def test_mode_left_out(self):
        for whole in range(-3, 4):
            self.assertEqual(rounds_to(whole), rounds_to(whole, mode="half"))

    def test_arguments(self):
        self.assertEqual(signature_of(rounds_to), [("whole", False, "none"), ("mode", True, "half")])
        self.assertEqual(str(rounds_to(mode="down", whole=1)), "[1, 2)")
        self.assertRaises(TypeError, rounds_to, 1, "down")


if __name__ == "__main__":
    unittest.main()
