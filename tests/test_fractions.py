"""[11] and [12]: fractions and modes, and [2] where it speaks of them."""

import unittest
from fractions import Fraction

from formatwords.errors import Nought
from formatwords.fractions import HALF, fraction, rounded
from tests.helper import MODES, fraction_of, refusal, rounded_by, signature_of

GREAT = 10 ** 59 + 7


class TestFraction(unittest.TestCase):
    def test_told_ones(self):
        rows = [
            (1, 2, (1, 2)), (2, 4, (1, 2)), (-2, 4, (-1, 2)), (2, -4, (-1, 2)), (-2, -4, (1, 2)), (6, 3, (2, 1)),
            (6, -3, (-2, 1)), (0, 5, (0, 1)), (0, -5, (0, 1)), (0, 1, (0, 1)), (7, 1, (7, 1)), (-7, -1, (7, 1)),
            (12, 18, (2, 3)), (35, 64, (35, 64)),
        ]
        for top, bottom, told in rows:
            self.assertEqual(fraction(top, bottom), told)

    def test_lowest_terms(self):
        for top in range(-30, 31):
            for bottom in list(range(-30, 0)) + list(range(1, 31)):
                told = fraction(top, bottom)
                self.assertIs(type(told), tuple)
                self.assertEqual(told, fraction_of(Fraction(top, bottom)))

    def test_great_ones(self):
        self.assertEqual(fraction(GREAT * 6, -GREAT * 4), (-3, 2))
        self.assertEqual(fraction(10 ** 59, 10 ** 58), (10, 1))
        self.assertEqual(fraction(GREAT, 10 ** 59), (GREAT, 10 ** 59))

    def test_bottom_left_out(self):
        for top in (0, 1, -1, 12, -GREAT):
            self.assertEqual(fraction(top), (top, 1))

    def test_bottom_nought(self):
        for top in (0, 1, -5, GREAT):
            self.assertEqual(refusal(self, Nought, fraction, top, 0).top, top)
            self.assertEqual(refusal(self, Nought, fraction, top=top, bottom=0).top, top)

    def test_arguments(self):
        self.assertEqual(signature_of(fraction), [("top", False, "none"), ("bottom", False, 1)])
        self.assertEqual(fraction(bottom=-4, top=6), (-3, 2))
        self.assertEqual(fraction(6, bottom=4), (3, 2))


class TestRounded(unittest.TestCase):
    def test_told_ones(self):
        # The whole numbers told by down, up, floor, roof, half, even.
        rows = [
            ((5, 2), (2, 3, 2, 3, 3, 2)), ((-5, 2), (-2, -3, -3, -2, -3, -2)),
            ((7, 2), (3, 4, 3, 4, 4, 4)), ((-7, 2), (-3, -4, -4, -3, -4, -4)),
            ((1, 2), (0, 1, 0, 1, 1, 0)), ((-1, 2), (0, -1, -1, 0, -1, 0)),
            ((3, 2), (1, 2, 1, 2, 2, 2)), ((-3, 2), (-1, -2, -2, -1, -2, -2)),
            ((1, 3), (0, 1, 0, 1, 0, 0)), ((-1, 3), (0, -1, -1, 0, 0, 0)),
            ((2, 3), (0, 1, 0, 1, 1, 1)), ((-2, 3), (0, -1, -1, 0, -1, -1)),
            ((49, 20), (2, 3, 2, 3, 2, 2)), ((51, 20), (2, 3, 2, 3, 3, 3)),
            ((-49, 20), (-2, -3, -3, -2, -2, -2)), ((-51, 20), (-2, -3, -3, -2, -3, -3)),
        ]
        for number, told in rows:
            for mode, whole in zip(MODES, told):
                with self.subTest(number=number, mode=mode):
                    self.assertEqual(rounded(number, mode=mode), whole)

    def test_whole_numbers_stay(self):
        for mode in MODES:
            for whole in list(range(-12, 13)) + [GREAT, -GREAT]:
                self.assertEqual(rounded((whole, 1), mode=mode), whole)

    def test_all_near_nought(self):
        for mode in MODES:
            for bottom in range(1, 13):
                for top in range(-60, 61):
                    number = Fraction(top, bottom)
                    self.assertEqual(rounded(fraction_of(number), mode=mode), rounded_by(number, mode))

    def test_halfway_and_just_beside(self):
        for mode in MODES:
            for whole in list(range(-6, 6)) + [GREAT, -GREAT, GREAT + 1, -GREAT - 1]:
                for beside in (0, Fraction(1, 10 ** 30), -Fraction(1, 10 ** 30)):
                    number = whole + Fraction(1, 2) + beside
                    self.assertEqual(rounded(fraction_of(number), mode=mode), rounded_by(number, mode))

    def test_great_ones(self):
        for mode in MODES:
            for number in (Fraction(GREAT, 7), Fraction(-GREAT, 7), Fraction(GREAT, 2), Fraction(7, GREAT),
                           Fraction(-7, GREAT), Fraction(GREAT, GREAT - 1), Fraction(GREAT - 1, GREAT)):
                self.assertEqual(rounded(fraction_of(number), mode=mode), rounded_by(number, mode))

    def test_mode_left_out(self):
        self.assertEqual(HALF, "half")
        for top in range(-11, 12):
            number = fraction_of(Fraction(top, 4))
            self.assertEqual(rounded(number), rounded(number, mode="half"))

    def test_arguments(self):
        self.assertEqual(signature_of(rounded), [("number", False, "none"), ("mode", True, "half")])
        self.assertEqual(rounded(mode="down", number=(5, 2)), 2)
        self.assertRaises(TypeError, rounded, (5, 2), "down")
        self.assertIs(type(rounded((5, 2))), int)


if __name__ == "__main__":
    unittest.main()
