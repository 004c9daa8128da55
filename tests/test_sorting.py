"""[53]: rows that rise, or don't."""

import random
import unittest

from formatwords.sorting import unsorted
from formatwords.words import Word
from tests.helper import drawn_word, row_by, signature_of


def unsorted_by(word, low, high):
    """The number of [53] by going through all."""
    for number in range(low + 1, high + 1):
        if row_by(word, number) <= row_by(word, number - 1):
            return number
    return None


class TestUnsorted(unittest.TestCase):
    def test_arguments(self):
        self.assertEqual(signature_of(unsorted), [("word", False, "none"), ("low", False, "none"),
                                                  ("high", False, None)])
        self.assertEqual(unsorted(high=20, low=0, word=Word()), 10)
        self.assertEqual(unsorted(Word(), 0, 20), 10)

    def test_by_hand(self):
        self.assertEqual(unsorted(Word(), 0), 10)
        self.assertEqual(unsorted(Word(), -1), 10)
        self.assertEqual(unsorted(Word(), -2), -1)
        self.assertIsNone(unsorted(Word(), 0, 9))
        self.assertEqual(unsorted(Word(), 10), 100)
        self.assertEqual(unsorted(Word(width=3), 0), 1000)
        self.assertEqual(unsorted(Word(width=3, fill="0"), 0), 1000)
        # A blank, and a nought, stand ahead of all digits; a stroke stands behind them.
        self.assertEqual(unsorted(Word(width=3, fill="|"), 0), 10)
        self.assertEqual(unsorted(Word(base=2, group=("_", 3)), 4, 8), None)
        self.assertEqual(unsorted(Word(base=2, group=("_", 3)), 4), 16)
        self.assertEqual(unsorted(Word(base=2, group=(",", 3)), 4), 8)
        self.assertEqual(unsorted(Word(sign="behind"), -5, 3), -4)
        # A plus stands ahead of a minus.
        self.assertEqual(unsorted(Word(sign="plus"), -1), 0)
        self.assertEqual(unsorted(Word(sign="blank"), -1), 0)
        self.assertEqual(unsorted(Word(sign="behind"), -1), 0)

    def test_low_and_high_at_the_same_number(self):
        draw = random.Random(1)
        for number in (0, 1, -1, 9, 10, -10, 10 ** 59, -10 ** 59):
            for time in range(20):
                self.assertIsNone(unsorted(drawn_word(draw), number, number))

    def test_far_from_nought(self):
        far = 10 ** 59
        self.assertIsNone(unsorted(Word(), far, 10 * far - 1))
        self.assertEqual(unsorted(Word(), far, 10 * far), 10 * far)
        self.assertEqual(unsorted(Word(), far), 10 * far)
        self.assertIsNone(unsorted(Word(), 10 * far - 1, 10 * far - 1))
        self.assertEqual(unsorted(Word(), 10 * far - 1), 10 * far)
        self.assertEqual(unsorted(Word(), -far), 2 - far)
        self.assertIsNone(unsorted(Word(), -far, 1 - far))
        self.assertEqual(unsorted(Word(), -far - 1), -far)
        self.assertEqual(unsorted(Word(), -far - 5, far), -far - 4)
        self.assertEqual(unsorted(Word(sign="behind", group=(",", 3)), -far, far), 2 - far)

    def test_across_powers_of_the_base(self):
        for base in (2, 3, 10, 36):
            for width in (0, 5, 24):
                word = Word(base=base, width=width, fill="0")
                for count in range(1, 30):
                    bound = base ** count
                    # By base 2 the 1 is the beginning of the 10.
                    least = None if count + 1 <= width or bound == 2 else bound
                    self.assertEqual(unsorted(word, bound - 1, bound), least)
                    self.assertEqual(unsorted(word, bound // base, bound + 1), least)

    def test_across_nought(self):
        for sign in ("minus", "plus", "blank", "brackets", "behind"):
            for side in ("left", "right", "middle", "inner"):
                for fill in " 0-z(+":
                    word = Word(sign=sign, side=side, fill=fill, width=3)
                    for low in range(-12, 2):
                        for high in (0, 1, 2, 12, 105):
                            self.assertEqual(unsorted(word, low, high), unsorted_by(word, low, high), (word, low))

    def test_small_ones_against_all(self):
        draw = random.Random(2)
        for time in range(2500):
            word = drawn_word(draw)
            low = draw.randint(-300, 300)
            high = low + draw.choice([0, 1, 2, 3, 20, 60])
            self.assertEqual(unsorted(word, low, high), unsorted_by(word, low, high), (word, low, high))

    def test_without_end_above(self):
        draw = random.Random(3)
        for time in range(500):
            word = drawn_word(draw)
            low = draw.choice([draw.randint(-40, 300), draw.randint(-10 ** 50, 10 ** 50)])
            told = unsorted(word, low)
            self.assertEqual(told, unsorted(word, low, None))
            self.assertGreater(told, low)
            self.assertLessEqual(row_by(word, told), row_by(word, told - 1))
            self.assertIsNone(unsorted(word, low, told - 1))
            self.assertEqual(unsorted(word, low, told), told)
            self.assertEqual(unsorted(word, low, told + 10 ** 59), told)
            if told - low < 300:
                self.assertEqual(told, unsorted_by(word, low, told))

    def test_without_end_below(self):
        # There is no least such number then: told is the one nearest to nought.
        self.assertEqual(unsorted(Word(), None), -1)
        self.assertEqual(unsorted(Word(base=2), None), -1)
        self.assertEqual(unsorted(Word(base=2, width=3, fill="~", side="left"), None), 2)
        self.assertEqual(unsorted(Word(sign="plus"), None, None), 0)
        self.assertEqual(unsorted(Word(), None, -10), -10)
        self.assertEqual(unsorted(Word(), None, -9), -10)
        self.assertEqual(unsorted(Word(base=2, width=3, side="left"), None, -1), -1)
        draw = random.Random(4)
        for time in range(300):
            word = drawn_word(draw)
            high = draw.choice([None, 0, 1, draw.randint(-300, 300), -10 ** 59])
            told = unsorted(word, None, high)
            self.assertTrue(high is None or told <= high)
            self.assertLessEqual(row_by(word, told), row_by(word, told - 1))
            for number in range(-abs(told), abs(told) + 1) if abs(told) < 400 else []:
                if abs(number) < abs(told) and (high is None or number <= high):
                    self.assertGreater(row_by(word, number), row_by(word, number - 1))


if __name__ == "__main__":
    unittest.main()
