"""[51] and [52]: Words and modes held against each other."""

import random
import unittest
from fractions import Fraction
from math import gcd

from formatwords.parting import modes_parting, parting
from formatwords.words import Word
from tests.helper import MODES, drawn_word, row_by, rounded_by, signature_of

FIELDS = ["width", "fill", "side", "sign", "mark", "group"]


def changed(word, **named):
    return Word(**{**vars(word), **named})


def near_parting(one, other, most):
    """The parting by going through all numbers near nought, or None."""
    for size in range(most):
        for number in (size, -size):
            rows = row_by(one, number), row_by(other, number)
            if rows[0] != rows[1]:
                return number, *rows
    return None


class TestParting(unittest.TestCase):
    def held(self, one, other, number):
        told = parting(one, other)
        if number is None:
            self.assertIsNone(told, (one, other))
        else:
            self.assertEqual(told, (number, row_by(one, number), row_by(other, number)), (one, other))
            self.assertIs(type(told), tuple)
            self.assertNotEqual(told[1], told[2])

    def test_arguments(self):
        self.assertEqual(signature_of(parting), [("one", False, "none"), ("other", False, "none")])
        self.assertEqual(parting(other=Word(), one=Word(width=2)), (0, " 0", "0"))

    def test_equal_words(self):
        draw = random.Random(1)
        for time in range(100):
            word = drawn_word(draw)
            self.held(word, changed(word), None)

    def test_at_nought(self):
        self.held(Word(), Word(width=2), 0)
        self.held(Word(), Word(mark=True), 0)
        self.held(Word(sign="plus"), Word(sign="blank"), 0)
        self.held(Word(width=3, side="left"), Word(width=3), 0)

    def test_at_one(self):
        # Nought is one of the fills, wherever it stands.
        self.held(Word(width=3, fill="0", side="left"), Word(width=3, fill="0"), 1)
        self.held(Word(width=4, fill="0", side="middle"), Word(width=4, fill="0", side="inner"), 1)

    def test_at_minus_one_and_only_below_nought(self):
        self.held(Word(), Word(sign="brackets"), -1)
        self.held(Word(sign="brackets"), Word(sign="behind"), -1)
        self.held(Word(width=2, fill="0"), Word(width=2, fill="0", side="inner"), None)
        self.held(Word(width=3, fill="0"), Word(width=3, fill="0", side="inner"), -1)
        self.held(Word(width=2, sign="behind", side="right"), Word(width=2, sign="behind", side="inner"), None)

    def test_only_beyond_many_digits(self):
        self.held(Word(group=(",", 8)), Word(group=(",", 9)), 10 ** 8)
        self.held(Word(group=("_", 9)), Word(), 10 ** 9)
        self.held(Word(group=(",", 9)), Word(group=("_", 9)), 10 ** 9)
        self.held(Word(base=36, group=(",", 9)), Word(base=36), 36 ** 9)
        self.held(Word(width=24, fill="0", group=("_", 9)), Word(width=24, fill="0"), 10 ** 9)
        self.held(Word(width=24, fill="0"), Word(width=23, fill="0"), 0)

    def test_bases(self):
        self.held(Word(), Word(base=16), 10)
        self.held(Word(base=2), Word(base=36), 2)
        self.held(Word(base=36), Word(base=35), 35)
        self.held(Word(mark=True), Word(base=11, mark=True), 0)
        # The fill makes the mark of the lesser base look like the greater one's.
        self.held(Word(base=2, mark=True, width=4, fill="1"), Word(base=12, mark=True), -1)
        self.held(Word(base=2, mark=True, width=4, fill="1", sign="behind"), Word(base=12, mark=True, sign="behind"),
                  -1)

    def test_made_unlike_and_written_alike(self):
        self.held(Word(), Word(width=1), None)
        self.held(Word(fill="*"), Word(side="left"), None)
        self.held(Word(width=1, fill="0", side="middle"), Word(), None)
        self.held(Word(mark=True, width=4), Word(mark=True), None)
        self.held(Word(sign="plus", width=2, fill="7"), Word(sign="plus", fill="8"), None)
        self.held(Word(width=2, fill="0"), Word(width=2, fill="0", side="inner"), None)
        self.held(Word(sign="plus", mark=True, width=5), Word(sign="plus", mark=True), None)

    def test_one_digit_more_than_the_least(self):
        # One is written alike, as the fill is a one; two is not.
        self.held(Word(width=2, fill="1", side="left", sign="plus"), Word(width=3, fill="1", side="left", sign="plus"),
                  0)
        self.held(Word(width=2, fill="1", sign="behind", side="left"), Word(width=2, fill="1", sign="behind"), 0)

    def test_of_two_the_one_above_nought(self):
        one, other = Word(sign="plus", group=(",", 1)), Word(sign="plus", group=("_", 1))
        self.held(one, other, 10)
        self.held(other, one, 10)

    def test_small_ones_against_all_numbers_near_nought(self):
        draw = random.Random(2)
        alike = beyond = 0
        for time in range(1500):
            one = drawn_word(draw)
            other = drawn_word(draw)
            if draw.random() < 0.9:
                names = draw.sample(FIELDS, draw.choice([1, 1, 2]))
                other = changed(one, **{name: getattr(other, name) for name in names})
            near = near_parting(one, other, 140)
            if near is not None:
                self.assertEqual(parting(one, other), near, (one, other))
                continue
            told = parting(one, other)
            if told is None:
                alike += 1
                self.alike_far_out(draw, one, other)
            else:
                beyond += 1
                self.held(one, other, told[0])
                self.none_nearer(draw, one, other, told[0])
        self.assertGreater(alike, 50)
        self.assertGreater(beyond, 20)

    def alike_far_out(self, draw, one, other):
        for time in range(40):
            number = draw.choice([1, -1]) * draw.randint(0, 10 ** draw.randint(1, 60))
            self.assertEqual(row_by(one, number), row_by(other, number), (one, other))

    def none_nearer(self, draw, one, other, number):
        size = abs(number)
        self.assertGreaterEqual(size, 140)
        powers = [one.base ** count for count in range(60) if one.base ** count <= size]
        tries = [size - 1, size // 2, size // one.base] + powers + [power + 1 for power in powers]
        tries += [power + lower for power in powers for lower in powers] + [2 * power for power in powers]
        tries += [draw.randint(0, size - 1) for time in range(100)]
        if number < 0:
            self.assertEqual(row_by(one, size), row_by(other, size))
        for near in tries:
            if near < size:
                self.assertEqual(row_by(one, near), row_by(other, near), (one, other))
                self.assertEqual(row_by(one, -near), row_by(other, -near), (one, other))

    def test_the_other_way_about(self):
        draw = random.Random(3)
        for time in range(150):
            one, other = drawn_word(draw), drawn_word(draw)
            told = parting(one, other)
            turned = parting(other, one)
            self.assertEqual(turned, told and (told[0], told[2], told[1]))


def least_by(one, other, base, places, most):
    """The fraction of [52] by going through all fractions of small bottoms, or None."""
    for bottom in range(1, most + 1):
        for size in range(1, 4 * bottom + 1):
            for top in (size, -size):
                product = Fraction(top, bottom) * base ** places
                if gcd(top, bottom) == 1 and rounded_by(product, one) != rounded_by(product, other):
                    return top, bottom
    return None


class TestModesParting(unittest.TestCase):
    def test_arguments(self):
        self.assertEqual(signature_of(modes_parting), [
            ("one", False, "none"), ("other", False, "none"), ("base", True, 10), ("places", True, 0)])
        self.assertEqual(modes_parting(other="up", one="down"), (1, 2))
        self.assertRaises(TypeError, modes_parting, "down", "up", 10)

    def test_one_mode(self):
        for mode in MODES:
            for base in (2, 10, 36):
                for places in (0, 12):
                    self.assertIsNone(modes_parting(mode, mode, base=base, places=places))

    def test_by_hand(self):
        self.assertEqual(modes_parting("half", "even"), (1, 2))
        self.assertEqual(modes_parting("down", "even"), (3, 2))
        self.assertEqual(modes_parting("down", "floor"), (-1, 2))
        self.assertEqual(modes_parting("up", "half"), (1, 3))
        self.assertEqual(modes_parting("up", "half", places=1), (1, 3))
        self.assertEqual(modes_parting("half", "even", base=2, places=3), (1, 16))
        self.assertEqual(modes_parting("half", "even", base=6, places=1), (3, 4))
        self.assertEqual(modes_parting("floor", "roof", base=6, places=1), (1, 4))
        self.assertEqual(modes_parting("floor", "half"), (1, 2))

    def test_all_pairs_against_all_fractions_of_small_bottoms(self):
        for base, places in [(10, 0), (2, 0), (2, 1), (2, 2), (3, 1), (6, 1), (6, 2), (10, 1), (10, 2), (12, 1),
                             (30, 1), (36, 0), (36, 2), (7, 3)]:
            for one in MODES:
                for other in MODES:
                    told = modes_parting(one, other, base=base, places=places)
                    if one == other:
                        continue
                    known = least_by(one, other, base, places, 33)
                    self.assertEqual(told, known, (one, other, base, places))
                    self.assertIs(type(told), tuple)

    def test_left_out(self):
        for one in MODES:
            for other in MODES:
                self.assertEqual(modes_parting(one, other), modes_parting(one, other, base=10, places=0))
                self.assertEqual(modes_parting(one, other, base=2), modes_parting(one, other, base=2, places=0))
                self.assertEqual(modes_parting(one, other, places=2), modes_parting(one, other, base=10, places=2))

    def test_great_bottoms(self):
        self.assertEqual(modes_parting("half", "even", places=12), (1, 2 ** 13))
        self.assertEqual(modes_parting("even", "half", base=32, places=12), (1, 2 ** 61))
        self.assertEqual(modes_parting("half", "even", base=36, places=12), (1, 2 ** 25))
        # A third power of 3 leaves 3 by 4.
        self.assertEqual(modes_parting("half", "even", base=24, places=11), (3, 2 ** 34))

    def test_the_greatest_places(self):
        for base in range(2, 37):
            for one in MODES:
                for other in MODES:
                    if one != other and {one, other} != {"half", "even"}:
                        told = modes_parting(one, other, base=base, places=12)
                        self.assertEqual(told, least_by(one, other, base, 12, 12))

    def test_half_and_even_at_the_greatest_places(self):
        for base in range(2, 37):
            top, bottom = modes_parting("half", "even", base=base, places=12)
            product = Fraction(top, bottom) * base ** 12
            self.assertEqual(product.denominator, 2)
            self.assertNotEqual(rounded_by(product, "half"), rounded_by(product, "even"))
            self.assertEqual(bottom & bottom - 1, 0)
            for lesser in [1, -1, 2, -2][:2 * (top - 1)]:
                product = Fraction(lesser, bottom) * base ** 12
                self.assertEqual(rounded_by(product, "half"), rounded_by(product, "even"))

    def test_either_way_about(self):
        for base in (2, 10, 24):
            for places in (0, 5, 12):
                for one in MODES:
                    for other in MODES:
                        self.assertEqual(modes_parting(one, other, base=base, places=places),
                                         modes_parting(other, one, base=base, places=places))


if __name__ == "__main__":
    unittest.main()
