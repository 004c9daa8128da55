"""[50]: shapes."""

import random
import unittest
from fractions import Fraction

from formatwords.shapes import shape
from formatwords.words import Word
from tests.helper import digits_by, drawn_word, row_by, signature_of

SIGNS = ["minus", "plus", "blank", "brackets", "behind"]
SIDES = ["left", "right", "middle", "inner"]


class TestShape(unittest.TestCase):
    def held(self, word, sign, count, numerals):
        """The shape against the rows of some numerals of this sign and count."""
        told = shape(word, sign, count)
        self.assertIs(type(told), tuple)
        numbers = [part for part in told if isinstance(part, int)]
        self.assertEqual(numbers, [] if sign == 0 else list(range(count)))
        for numeral in numerals:
            digits = digits_by(abs(numeral), word.base)
            self.assertEqual(len(digits), count)
            row = "".join(digits[part] if isinstance(part, int) else part for part in told)
            number = numeral if word.kind == "whole" else Fraction(numeral, word.base ** word.places)
            self.assertEqual(row, row_by(word, number), (word, sign, count))
        for part in told:
            self.assertTrue(type(part) is int or (type(part) is str and len(part) == 1))

    def numerals(self, draw, word, sign, count):
        if sign == 0:
            return [0]
        low, high = word.base ** (count - 1), word.base ** count - 1
        return [sign * one for one in (low, high, draw.randint(low, high), draw.randint(low, high))]

    def test_arguments(self):
        self.assertEqual(signature_of(shape), [(name, False, "none") for name in ("word", "sign", "count")])
        self.assertEqual(shape(count=2, sign=1, word=Word()), (0, 1))

    def test_by_hand(self):
        self.assertEqual(shape(Word(), 1, 3), (0, 1, 2))
        self.assertEqual(shape(Word(), -1, 1), ("-", 0))
        self.assertEqual(shape(Word(), 0, 1), ("0",))
        self.assertEqual(shape(Word(group=(",", 3)), -1, 4), ("-", 0, ",", 1, 2, 3))
        self.assertEqual(shape(Word(width=6, fill="0", side="inner", sign="plus"), 1, 2), ("+", "0", "0", "0", 0, 1))
        self.assertEqual(shape(Word(width=6, fill="*", side="middle", sign="brackets"), -1, 1),
                         ("*", "(", 0, ")", "*", "*"))
        self.assertEqual(shape(Word(mark=True, base=16, sign="blank"), 1, 1), (" ", "1", "6", "#", 0))
        self.assertEqual(shape(Word(sign="behind", width=5, side="left"), -1, 2), (0, 1, "-", " ", " "))

    def test_fixed_by_hand(self):
        word = Word("fixed", places=2)
        self.assertEqual(shape(word, 1, 1), ("0", ".", "0", 0))
        self.assertEqual(shape(word, 1, 2), ("0", ".", 0, 1))
        self.assertEqual(shape(word, -1, 3), ("-", 0, ".", 1, 2))
        self.assertEqual(shape(word, 0, 1), ("0", ".", "0", "0"))
        self.assertEqual(shape(Word("fixed", places=1, group=("_", 1)), 1, 3), (0, "_", 1, ".", 2))

    def test_each_sign_side_and_group(self):
        draw = random.Random(50)
        for kind, places in (("whole", 0), ("fixed", 0), ("fixed", 3)):
            for word_sign in SIGNS:
                for side in SIDES:
                    for group in (None, (",", 1), ("_", 3), ("'", 9)):
                        word = Word(kind, sign=word_sign, side=side, group=group, places=places, width=9, fill="0",
                                    mark=draw.random() < 0.5, base=draw.choice([2, 10, 36]))
                        for sign, count in ((0, 1), (1, 1), (-1, 1), (1, 4), (-1, 5), (1, 60), (-1, 60)):
                            self.held(word, sign, count, self.numerals(draw, word, sign, count))

    def test_counts_about_the_places(self):
        draw = random.Random(51)
        for places in (1, 2, 5, 12):
            word = Word("fixed", places=places, group=(",", 2), width=24, fill="7", side="middle")
            for count in (1, places, places + 1, places + 2, 60):
                for sign in (1, -1):
                    self.held(word, sign, count, self.numerals(draw, word, sign, count))

    def test_drawn(self):
        draw = random.Random(52)
        for time in range(1500):
            word = drawn_word(draw, kind=draw.choice(["whole", "fixed"]))
            sign = draw.choice([-1, 0, 1])
            count = 1 if sign == 0 else draw.choice([1, 2, 3, 5, 6, 7, 23, 24, 25, 60])
            self.held(word, sign, count, self.numerals(draw, word, sign, count))


if __name__ == "__main__":
    unittest.main()
