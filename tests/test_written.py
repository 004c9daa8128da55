"""[30] to [33]: rows of numbers."""

import random
import unittest
from fractions import Fraction
from itertools import product

from formatwords.rowlooks import is_row
from formatwords.words import Word
from formatwords.written import write
from tests.helper import MODES, NO_TEXTS, fraction_of, numeral_by, row_by, signature_of

GREAT = 123456789012345678901234567890123456789012345678901234567890
SIDES = ("left", "right", "middle", "inner")
SIGNS = ("minus", "plus", "blank", "brackets", "behind")
GROUPS = (None, (",", 3), ("_", 1), ("'", 2), ("_", 9))
TINY = Fraction(1, 10 ** 40)


class TestRows(unittest.TestCase):
    def told(self, word, rows):
        for number, text in rows:
            with self.subTest(word=str(word), number=number):
                self.assertEqual(write(word, number), text)
                self.assertIs(is_row(word, number, text), True)

    def looked(self, word, number):
        """Held against the oracle; the number is whole or one of Python's fractions."""
        handed = number if word.kind == "whole" else fraction_of(number)
        row = row_by(word, number)
        self.assertEqual(write(word, handed), row, (str(word), number))
        return row


class TestWhole(TestRows):
    def test_told_ones(self):
        self.told(Word(), [(0, "0"), (7, "7"), (-7, "-7"), (10, "10"), (-1234567, "-1234567"), (GREAT, str(GREAT))])
        self.told(Word(base=16), [(255, "ff"), (256, "100"), (-255, "-ff"), (0, "0"), (15, "f"), (17, "11")])
        self.told(Word(base=2), [(5, "101"), (-8, "-1000"), (7, "111")])
        self.told(Word(base=36), [(35, "z"), (36, "10"), (-1295, "-zz")])
        self.told(Word(base=16, width=12, fill="*", sign="plus", mark=True, group=(",", 3)),
                  [(255, "******+16#ff"), (-1048575, "**-16#ff,fff"), (2 ** 40, "+16#10,000,000,000")])

    def test_signs(self):
        rows = [
            ("minus", "-5", "0", "5"), ("plus", "-5", "+0", "+5"), ("blank", "-5", " 0", " 5"),
            ("brackets", "(5)", "0", "5"), ("behind", "5-", "0", "5"),
        ]
        for sign, below, nought, above in rows:
            self.told(Word(sign=sign), [(-5, below), (0, nought), (5, above)])

    def test_mark(self):
        rows = [
            ("minus", "-16#ff", "16#0", "16#ff"), ("plus", "-16#ff", "+16#0", "+16#ff"),
            ("blank", "-16#ff", " 16#0", " 16#ff"), ("brackets", "(16#ff)", "16#0", "16#ff"),
            ("behind", "16#ff-", "16#0", "16#ff"),
        ]
        for sign, below, nought, above in rows:
            self.told(Word(base=16, mark=True, sign=sign), [(-255, below), (0, nought), (255, above)])
        self.told(Word(mark=True), [(12, "10#12")])
        self.told(Word(mark=True, base=2), [(-2, "-2#10")])

    def test_groups(self):
        self.told(Word(group=(",", 3)), [(0, "0"), (999, "999"), (1000, "1,000"), (-1234567, "-1,234,567"),
                                         (999999, "999,999"), (-100, "-100")])
        self.told(Word(group=("_", 1)), [(123, "1_2_3"), (1, "1")])
        self.told(Word(group=("'", 4), base=2), [(255, "1111'1111"), (256, "1'0000'0000")])

    def test_sides(self):
        rows = [
            ("left", ["-5****", "12****", "12345*", "123456", "1234567"]),
            ("right", ["****-5", "****12", "*12345", "123456", "1234567"]),
            ("middle", ["**-5**", "**12**", "12345*", "123456", "1234567"]),
            ("inner", ["-****5", "****12", "*12345", "123456", "1234567"]),
        ]
        for side, texts in rows:
            word = Word(width=6, fill="*", side=side)
            self.told(word, list(zip([-5, 12, 12345, 123456, 1234567], texts)))

    def test_middle_by_each_lack(self):
        word = Word(width=9, fill=".", side="middle")
        self.told(word, [(1, "....1...."), (12, "...12...."), (123, "...123..."), (1234, "..1234..."),
                         (12345678, "12345678."), (123456789, "123456789")])

    def test_inner_stands_behind_sign_and_mark(self):
        self.told(Word(width=9, fill="0", side="inner", mark=True, base=16), [(-255, "-16#000ff"), (255, "16#0000ff")])
        self.told(Word(width=9, fill="0", side="inner", sign="brackets"), [(-5, "(0000005)"), (5, "000000005")])
        self.told(Word(width=7, fill="0", side="inner", sign="behind"), [(-5, "000005-"), (5, "0000005")])
        self.told(Word(width=7, fill=" ", side="inner", sign="plus"), [(-5, "-     5"), (0, "+     0")])
        self.told(Word(width=9, fill="0", side="inner", group=(",", 3)), [(1234, "00001,234")])

    def test_fill_that_is_the_blank(self):
        self.told(Word(width=4), [(5, "   5"), (-5, "  -5")])
        self.told(Word(width=4, side="left", sign="behind"), [(-5, "5-  ")])
        self.told(Word(width=4, sign="blank"), [(5, "   5"), (500, " 500"), (5000, " 5000")])

    def test_all_kinds_of_words(self):
        numbers = [0, 1, -1, 9, 10, -10, 11, 99, 100, -100, 101, 12345, -12345, GREAT, -GREAT]
        for base, width, side, sign, mark, group in product(
                (2, 10, 16, 36), (0, 1, 6, 24), SIDES, SIGNS, (False, True), GROUPS):
            word = Word(base=base, width=width, fill="*", side=side, sign=sign, mark=mark, group=group)
            for number in numbers:
                self.looked(word, number)

    def test_beside_powers_and_at_widths(self):
        for base in (2, 3, 10, 16, 36):
            for exponent in range(0, 8):
                for beside in (-1, 0, 1):
                    for number in (base ** exponent + beside, -base ** exponent - beside):
                        for width in range(exponent - 1, exponent + 5):
                            self.looked(Word(base=base, width=max(0, width), fill="0", sign="brackets"), number)


class TestFixed(TestRows):
    def test_told_ones(self):
        self.told(Word("fixed"), [((0, 1), "0"), ((5, 2), "3"), ((-5, 2), "-3"), ((7, 3), "2")])
        self.told(Word("fixed", places=2), [
            ((0, 1), "0.00"), ((1, 1), "1.00"), ((1, 3), "0.33"), ((-1, 3), "-0.33"), ((1, 100), "0.01"),
            ((1, 200), "0.01"), ((1, 201), "0.00"), ((-1, 201), "0.00"), ((-1, 200), "-0.01"), ((12345, 1), "12345.00"),
            ((1999, 200), "10.00"), ((1, 8), "0.13"), ((999, 1000), "1.00"), ((-1, 8), "-0.13")])
        self.told(Word("fixed", places=2, mode="down"), [((1, 8), "0.12"), ((-1, 8), "-0.12"), ((-1, 101), "0.00")])
        self.told(Word("fixed", places=2, mode="even"), [((1, 8), "0.12"), ((3, 8), "0.38"), ((-1, 8), "-0.12")])
        self.told(Word("fixed", places=4, base=2), [((1, 2), "0.1000"), ((-7, 4), "-1.1100"), ((1, 32), "0.0001")])
        self.told(Word("fixed", places=1, base=16), [((1, 2), "0.8"), ((31, 32), "1.0"), ((255, 1), "ff.0")])
        self.told(Word("fixed", places=12), [((1, 10 ** 12), "0.000000000001"), ((-5, 10 ** 13), "-0.000000000001")])

    def test_groups_ahead_of_the_point_alone(self):
        self.told(Word("fixed", places=4, group=(",", 3)), [
            ((1234567, 1), "1,234,567.0000"), ((123, 1), "123.0000"), ((-1234, 1), "-1,234.0000"), ((0, 1), "0.0000"),
            ((6172839, 5000), "1,234.5678")])
        self.told(Word("fixed", places=6, group=("_", 1)), [((123, 1), "1_2_3.000000")])

    def test_noughts_ahead(self):
        for places in range(13):
            word = Word("fixed", places=places)
            self.told(word, [((0, 1), "0" + ("." + "0" * places if places else ""))])
            if places:
                self.told(word, [((1, 10 ** places), "0." + "0" * (places - 1) + "1")])
                self.told(word, [((1, 10), "0.1" + "0" * (places - 1))])

    def test_nought_has_no_minus(self):
        for sign, text in (("minus", "0.0"), ("plus", "+0.0"), ("blank", " 0.0"), ("brackets", "0.0"),
                ("behind", "0.0")):
            self.told(Word("fixed", places=1, sign=sign), [((-1, 1000), text), ((0, 1), text), ((1, 1000), text)])
            self.told(Word("fixed", places=1, sign=sign, mode="roof"), [((-99, 1000), text)])
            self.told(Word("fixed", places=1, sign=sign, mode="down"), [((-99, 1000), text)])
        self.told(Word("fixed", places=1, mode="floor"), [((-1, 1000), "-0.1")])
        self.told(Word("fixed", places=1, mode="up", sign="brackets"), [((-1, 1000), "(0.1)")])

    def test_halfway_at_the_last_place(self):
        # By down, up, floor, roof, half, even.
        rows = [
            (Fraction(1, 20), ["0.0", "0.1", "0.0", "0.1", "0.1", "0.0"]),
            (Fraction(3, 20), ["0.1", "0.2", "0.1", "0.2", "0.2", "0.2"]),
            (Fraction(-1, 20), ["0.0", "-0.1", "-0.1", "0.0", "-0.1", "0.0"]),
            (Fraction(-3, 20), ["-0.1", "-0.2", "-0.2", "-0.1", "-0.2", "-0.2"]),
            (Fraction(199, 20), ["9.9", "10.0", "9.9", "10.0", "10.0", "10.0"]),
        ]
        for number, texts in rows:
            for mode, text in zip(MODES, texts):
                self.told(Word("fixed", places=1, mode=mode), [(fraction_of(number), text)])
        for base, places, mode in product((2, 3, 10, 36), (0, 1, 2, 12), MODES):
            word = Word("fixed", base=base, places=places, mode=mode)
            for whole in (-3, -2, -1, 0, 1, 2, base - 1, base ** (places + 1) - 1):
                for beside in (-TINY, 0, TINY):
                    self.looked(word, (whole + Fraction(1, 2)) / Fraction(base) ** places + beside)

    def test_all_kinds_of_words(self):
        numbers = [Fraction(0), Fraction(1, 3), Fraction(-1, 3), Fraction(-1, 1000), Fraction(1999, 2),
            Fraction(-12345678, 7),
                   Fraction(GREAT, 7), Fraction(-7, GREAT), Fraction(255, 256)]
        for base, width, side, sign, mark, group, places in product(
                (2, 10, 36), (0, 7, 24), SIDES, SIGNS, (False, True), GROUPS[:3], (0, 1, 5, 12)):
            word = Word("fixed", base=base, width=width, fill="*", side=side, sign=sign, mark=mark, group=group,
                places=places)
            for number in numbers:
                self.looked(word, number)


class TestPower(TestRows):
    def test_told_ones(self):
        self.told(Word("power", places=3, step=3), [
            ((0, 1), "0.000@0"), ((1, 1), "1.000@0"), ((999, 1), "999.000@0"), ((1000, 1), "1.000@3"),
            ((123456789, 1), "123.457@6"), ((-123456789, 1), "-123.457@6"), ((1, 1000), "1.000@-3"),
            ((1, 10), "100.000@-3"),
            ((9999999, 10000), "1.000@3"), ((999999, 1000), "999.999@0"), ((-2499999, 2500), "-1.000@3"),
            ((1, 7), "142.857@-3")])
        self.told(Word("power"), [((0, 1), "0@0"), ((5, 1), "5@0"), ((99, 10), "1@1"), ((47, 5), "9@0"),
            ((19, 2), "1@1"),
                                  ((-19, 2), "-1@1"), ((1, 10), "1@-1"), ((24, 25), "1@0"), ((10, 1), "1@1")])
        self.told(Word("power", step=2), [((99, 1), "99@0"), ((100, 1), "1@2"), ((199, 2), "1@2"), ((497, 5), "99@0"),
                                          ((9, 100), "9@-2"), ((1, 1000), "10@-4"), ((999, 1000), "1@0")])
        self.told(Word("power", step=4, base=2, places=1),
            [((15, 1), "1111.0@0"), ((63, 4), "1.0@4"), ((16, 1), "1.0@4"),
                                                            ((1, 2), "1000.0@-4")])
        self.told(Word("power", base=36, places=2), [((35, 1), "z.00@0"), ((36, 1), "1.00@1"), ((1295, 36), "z.z0@0")])
        self.told(Word("power", base=16, mark=True, sign="brackets", places=1, width=14, fill="_", side="inner"),
                  [((-255, 1), "(16#____f.f@1)"), ((255, 1), "16#______f.f@1")])
        self.told(Word("power", sign="behind", places=1), [((-1, 8), "1.3@-1-"), ((1, 8), "1.3@-1")])
        self.told(Word("power", sign="plus"), [((0, 1), "+0@0")])

    def test_by_each_mode_up_to_the_next_exponent(self):
        rows = [
            (Fraction(999, 100), ["9.9@0", "1.0@1", "9.9@0", "1.0@1", "1.0@1", "1.0@1"]),
            (Fraction(-999, 100), ["-9.9@0", "-1.0@1", "-1.0@1", "-9.9@0", "-1.0@1", "-1.0@1"]),
            (Fraction(995, 100), ["9.9@0", "1.0@1", "9.9@0", "1.0@1", "1.0@1", "1.0@1"]),
            (Fraction(985, 100), ["9.8@0", "9.9@0", "9.8@0", "9.9@0", "9.9@0", "9.8@0"]),
        ]
        for number, texts in rows:
            for mode, text in zip(MODES, texts):
                self.told(Word("power", places=1, mode=mode), [(fraction_of(number), text)])

    def test_at_and_beside_powers(self):
        for base, step, places, mode in product((2, 3, 10, 36), (1, 2, 3, 4), (0, 1, 3), MODES):
            word = Word("power", base=base, step=step, places=places, mode=mode)
            for exponent in (-9, -4, -3, -2, -1, 0, 1, 2, 3, 4, 9):
                at = Fraction(base) ** exponent
                for beside in (0, at * TINY, -at * TINY, at / base ** (places + 1), -at / base ** (places + 1)):
                    self.looked(word, at + beside)
                    self.looked(word, -at - beside)

    def test_very_small_and_very_great(self):
        for base, step, places in product((2, 10, 36), (1, 2, 3, 4), (0, 2, 12)):
            word = Word("power", base=base, step=step, places=places)
            for number in (Fraction(GREAT), Fraction(1, GREAT), Fraction(-GREAT, 7), Fraction(-7, GREAT),
                           Fraction(GREAT - 1, GREAT), Fraction(GREAT, GREAT - 1)):
                self.looked(word, number)

    def test_all_kinds_of_words(self):
        numbers = [Fraction(0), Fraction(1, 3), Fraction(-1, 3000), Fraction(1999, 2), Fraction(-12345678, 7),
            Fraction(63, 64)]
        for base, width, side, sign, mark, places, step in product(
                (2, 10), (0, 9, 24), SIDES, SIGNS, (False, True), (0, 1, 5), (1, 3)):
            word = Word("power", base=base, width=width, fill="@", side=side, sign=sign, mark=mark, places=places,
                step=step)
            for number in numbers:
                self.looked(word, number)

    def test_the_numeral_s_bounds(self):
        # The oracle itself: n lies from base ** places to below base ** (step + places), and step divides e.
        chance = random.Random(31)
        for count in range(500):
            word = Word("power", base=chance.choice((2, 7, 10)), places=chance.randrange(3),
                step=chance.randrange(1, 5),
                        mode=chance.choice(MODES))
            n, e = numeral_by(word, Fraction(chance.randrange(1, 10 ** 9), chance.randrange(1, 10 ** 9)))
            self.assertTrue(word.base ** word.places <= n < word.base ** (word.step + word.places))
            self.assertEqual(e % word.step, 0)


class TestIsRow(unittest.TestCase):
    CASES = [
        (Word(), 1234), (Word(width=8, fill="*", side="middle", sign="plus"), -12), (Word(base=16, mark=True), 255),
        (Word("fixed", places=2, group=(",", 3)), (-123456, 7)), (Word("fixed", places=2, mode="down"), (-1, 1000)),
        (Word("power", places=2, step=3, sign="brackets", width=12), (-123456, 7)), (Word("power"), (0, 1)),
    ]

    def test_the_row_and_none_beside_it(self):
        for word, number in self.CASES:
            row = write(word, number)
            self.assertIs(is_row(word, number, row), True)
            others = [row[:at] + row[at + 1:] for at in range(len(row))]
            for sign in " 0159-+,.#*@(a":
                others += [row[:at] + sign + row[at:] for at in range(len(row) + 1)]
                others += [row[:at] + sign + row[at + 1:] for at in range(len(row))]
            for other in others + ["", row + row, row.upper() + " ", row + "\n"]:
                self.assertIs(is_row(word, number, other), other == row)

    def test_rows_of_numbers_beside_it(self):
        for number in range(-12, 13):
            for other in range(-12, 13):
                self.assertIs(is_row(Word(width=3), number, write(Word(width=3), other)), number == other)
        word = Word("fixed", places=1)
        self.assertIs(is_row(word, (1, 3), write(word, (3, 10))), True)
        self.assertIs(is_row(word, (1, 3), write(word, (2, 5))), False)

    def test_no_texts(self):
        for word, number in self.CASES:
            row = write(word, number)
            for thing in NO_TEXTS + [word, [row], (row,), {row: row}, list(row), row.encode()]:
                self.assertIs(is_row(word, number, thing), False)

    def test_arguments(self):
        self.assertEqual(signature_of(write), [("word", False, "none"), ("number", False, "none")])
        self.assertEqual(signature_of(is_row), [(name, False, "none") for name in ("word", "number", "row")])
        self.assertEqual(write(number=5, word=Word()), "5")
        self.assertIs(is_row(row="5", number=5, word=Word()), True)


if __name__ == "__main__":
    unittest.main()
