"""[40]: from a row back to the numbers."""

import random
import re
import unittest
from fractions import Fraction
from itertools import product

from formatwords.backs import backs
from formatwords.ranges import Range, joined
from formatwords.words import Word
from formatwords.written import write
from tests.helper import MODES, fraction_of, python_of, row_by, signature_of

GREAT = 123456789012345678901234567890123456789012345678901234567890
SIDES = ("left", "right", "middle", "inner")
SIGNS = ("minus", "plus", "blank", "brackets", "behind")


class TestBacks(unittest.TestCase):
    def texts(self, word, text):
        return [str(one) for one in backs(word, text)]

    def told(self, word, rows):
        for text, texts in rows:
            with self.subTest(word=str(word), text=text):
                self.assertEqual(self.texts(word, text), texts)
                self.looked(word, text)

    def looked(self, word, text, numbers=()):
        """Each Range held against the rows at its ends, within and beside it."""
        if word.kind == "power" and re.search("@-?[0-9]{4}", text):
            # Nothing is promised of more than three figures there.
            return
        ranges = backs(word, text)
        self.assertIs(type(ranges), list)
        self.assertEqual(joined(ranges), ranges)
        self.held(word, text, ranges, numbers)
        for one in ranges:
            self.assertIs(type(one), Range)
            low, high = python_of(one.low), python_of(one.high)
            if word.kind == "whole":
                self.assertEqual((one.low, one.low_in, one.high_in), (one.high, True, True))
                self.assertEqual(low.denominator, 1)
                numbers = [int(low) - 1, int(low), int(low) + 1]
            else:
                tiny = max(abs(low), abs(high), Fraction(1, 10 ** 9)) / 10 ** 30
                within = [(low * 7 + high) / 8, (low + high) / 2, (low + high * 7) / 8]
                numbers = [low - tiny, low, low + tiny, high - tiny, high, high + tiny] + within
            self.held(word, text, ranges, numbers)

    def held(self, word, text, ranges, numbers):
        for number in numbers:
            handed = fraction_of(number)
            self.assertEqual(any(one.has(handed) for one in ranges), row_by(word, number) == text,
                             (str(word), text, str(number)))

    def grouped_by_row(self, word, numbers):
        """Of each row of these numbers just those of them are told that have it."""
        rows = {}
        for number in numbers:
            rows.setdefault(row_by(word, number), []).append(number)
        for text, alike in rows.items():
            if word.kind == "power" and re.search("@-?[0-9]{4}", text):
                continue
            ranges = backs(word, text)
            if word.kind == "whole":
                told = {one.low[0] for one in ranges}
                here = [number for number in numbers if number in told]
            else:
                here = [number for number in numbers if any(one.has(fraction_of(number)) for one in ranges)]
            self.assertEqual(here, alike, (str(word), text))
            self.looked(word, text)


class TestWhole(TestBacks):
    def test_told_ones(self):
        self.told(Word(), [("0", ["[0, 0]"]), ("12", ["[12, 12]"]), ("-12", ["[-12, -12]"]), ("012", []), ("-0", []),
                           ("+1", []), ("", []), (" 1", []), ("1 ", []), ("-", []), ("1-", []), ("a", []), ("1.0", []),
                           ("--1", []), ("1,000", []), ("1@0", []), (str(GREAT), [f"[{GREAT}, {GREAT}]"])])
        self.told(Word(base=16), [("ff", ["[255, 255]"]), ("FF", []), ("fg", [])])
        self.told(Word(group=(",", 3)), [("1,234", ["[1234, 1234]"]), ("1234", []), ("12,34", []), (",234", []),
                                         ("1,,234", []), ("123", ["[123, 123]"]),
                                         ("1,234,567", ["[1234567, 1234567]"])])
        self.told(Word(base=16, mark=True), [("16#ff", ["[255, 255]"]), ("-16#1", ["[-1, -1]"]), ("ff", []),
            ("10#9", [])])
        self.told(Word(sign="plus"), [("+5", ["[5, 5]"]), ("5", []), ("-5", ["[-5, -5]"]), ("+0", ["[0, 0]"]),
            ("-0", [])])
        self.told(Word(sign="brackets"), [("(5)", ["[-5, -5]"]), ("(5", []), ("5)", []), ("(0)", []), ("()", [])])
        self.told(Word(sign="behind"), [("5-", ["[-5, -5]"]), ("-5", []), ("0-", []), ("-", [])])
        self.told(Word(sign="blank"), [(" 5", ["[5, 5]"]), ("5", []), (" 0", ["[0, 0]"])])

    def test_widths(self):
        self.told(Word(width=4), [("   5", ["[5, 5]"]), ("  5 ", []), ("5", []), ("  5", []), ("    5", []),
                                  ("12345", ["[12345, 12345]"]), (" 12345", []), ("    ", []),
                                  ("1234", ["[1234, 1234]"])])
        self.told(Word(width=5, side="middle", fill="*"),
            [("**5**", ["[5, 5]"]), ("*12**", ["[12, 12]"]), ("**12*", [])])
        self.told(Word(width=5, side="inner", fill="*"),
            [("-***5", ["[-5, -5]"]), ("***-5", []), ("****5", ["[5, 5]"])])

    def test_fill_that_is_a_digit(self):
        self.told(Word(width=3, fill="1"), [("111", ["[1, 1]", "[11, 11]", "[111, 111]"]),
            ("115", ["[5, 5]", "[15, 15]",
                                            "[115, 115]"]), ("110", ["[0, 0]", "[10, 10]", "[110, 110]"])])
        self.told(Word(width=3, fill="0"), [("007", ["[7, 7]"]), ("000", ["[0, 0]"]), ("0-7", ["[-7, -7]"]),
            ("-07", [])])
        self.told(Word(width=3, fill="0", side="left"),
            [("100", ["[1, 1]", "[10, 10]", "[100, 100]"]), ("000", ["[0, 0]"]),
                                                         ("-10", ["[-10, -10]", "[-1, -1]"])])
        self.told(Word(width=4, fill="0", side="inner"), [("-007", ["[-7, -7]"]), ("0007", ["[7, 7]"])])
        self.told(Word(width=4, fill="2", side="middle"),
            [("2222", ["[2, 2]", "[22, 22]", "[222, 222]", "[2222, 2222]"])])

    def test_fill_that_is_a_sign(self):
        self.told(Word(width=2, fill="-"), [("-1", ["[-1, -1]", "[1, 1]"]), ("-0", ["[0, 0]"]), ("--", [])])
        self.told(Word(width=3, fill="-"), [("--1", ["[-1, -1]", "[1, 1]"]), ("-12", ["[-12, -12]", "[12, 12]"])])
        self.told(Word(width=2, fill="-", sign="behind", side="left"),
            [("1-", ["[-1, -1]", "[1, 1]"]), ("0-", ["[0, 0]"])])
        self.told(Word(width=3, fill="+", sign="plus", side="inner"), [("++1", ["[1, 1]"]), ("-+1", ["[-1, -1]"])])
        self.told(Word(width=3, fill=" ", sign="blank"), [("  1", ["[1, 1]"]), (" -1", ["[-1, -1]"])])
        self.told(Word(width=4, fill=",", group=(",", 1), side="left"), [("1,2,", ["[12, 12]"]), ("1,,,", ["[1, 1]"])])

    def test_numbers_side_by_side_stay_two(self):
        self.told(Word(base=2, width=2, fill="0", side="left"), [("10", ["[1, 1]", "[2, 2]"]), ("11", ["[3, 3]"])])
        self.told(Word(base=2, width=3, fill="0", side="left", sign="plus"), [
            ("-10", ["[-2, -2]", "[-1, -1]"]), ("+10", ["[1, 1]", "[2, 2]"]), ("+00", ["[0, 0]"])])
        self.told(Word(base=2, width=4, fill="0", side="left"), [("1000", ["[1, 1]", "[2, 2]", "[4, 4]", "[8, 8]"])])

    def test_all_rows(self):
        numbers = list(range(-25, 26)) + [-110, -101, -100, -99, 99, 100, 101, 110, 111, 112] + [-1111, -1000, 999,
            1000, 1001, 1010, 1100, 1110, 1111, 1112, 11111]
        for fill, side, sign, width in product("01-+( ,#", SIDES, SIGNS, (0, 3, 5)):
            self.grouped_by_row(Word(width=width, fill=fill, side=side, sign=sign), sorted(numbers))
        for fill, side, sign in product("0-1#2,", SIDES, ("minus", "brackets")):
            word = Word(width=6, fill=fill, side=side, sign=sign, base=2, mark=True, group=(",", 2))
            self.grouped_by_row(word, list(range(-70, 71)))

    def test_great_ones(self):
        for base in (2, 10, 36):
            for number in (GREAT, -GREAT):
                word = Word(base=base, group=("_", 3), sign="brackets", mark=True)
                self.assertEqual(self.texts(word, write(word, number)), [f"[{number}, {number}]"])


class TestFixed(TestBacks):
    def test_each_mode(self):
        rows = [
            ("down", ["(-1/5, -1/10]", "(-1/10, 1/10)", "[1/10, 1/5)"]),
            ("up", ["[-1/10, 0)", "[0, 0]", "(0, 1/10]"]),
            ("floor", ["[-1/10, 0)", "[0, 1/10)", "[1/10, 1/5)"]),
            ("roof", ["(-1/5, -1/10]", "(-1/10, 0]", "(0, 1/10]"]),
            ("half", ["(-3/20, -1/20]", "(-1/20, 1/20)", "[1/20, 3/20)"]),
            ("even", ["(-3/20, -1/20)", "[-1/20, 1/20]", "(1/20, 3/20)"]),
        ]
        for mode, (below, nought, above) in rows:
            word = Word("fixed", places=1, mode=mode)
            self.told(word, [("-0.1", [below]), ("0.0", [nought]), ("0.1", [above]), ("-0.0", [])])

    def test_told_ones(self):
        self.told(Word("fixed", places=2), [
            ("0.33", ["[13/40, 67/200)"]), ("1.00", ["[199/200, 201/200)"]), ("1", []), ("1.0", []), ("1.000", []),
            (".33", []), ("00.33", []), ("0,33", []), ("100", []), ("1.0.0", []), ("10.0", []),
            ("-0.33", ["(-67/200, -13/40]"]),
            ("", []), (".", []), ("-", []), ("0.3a", []), ("0.33 ", [])])
        self.told(Word("fixed"), [("1", ["[1/2, 3/2)"]), ("1.", []), ("0", ["(-1/2, 1/2)"])])
        self.told(Word("fixed", places=2, group=(",", 3)), [("1,234.00", ["[246799/200, 246801/200)"]), ("1234.00", []),
                                                            ("1,23.400", [])])
        self.told(Word("fixed", places=4, base=2), [("0.0001", ["[1/32, 3/32)"]), ("1.0000", ["[31/32, 33/32)"])])

    def test_several_numerals(self):
        self.told(Word("fixed", width=3, fill="1"), [("111", ["[1/2, 3/2)", "[21/2, 23/2)", "[221/2, 223/2)"])])
        self.told(Word("fixed", width=2, fill="-"), [("-1", ["(-3/2, -1/2]", "[1/2, 3/2)"])])
        self.told(Word("fixed", width=5, fill=".", places=1), [("..1.0", ["[19/20, 21/20)"])])
        self.told(Word("fixed", width=5, fill="0", places=1, side="left"), [("1.000", ["[19/20, 21/20)"])])

    def test_ranges_that_touch_are_one(self):
        rows = [("half", "[1/2, 5/2)"), ("even", "(1/2, 5/2]"), ("down", "[1, 3)"), ("up", "(0, 2]"),
            ("floor", "[1, 3)"),
                ("roof", "(0, 2]")]
        for mode, text in rows:
            self.told(Word("fixed", base=2, width=2, fill="0", side="left", mode=mode), [("10", [text])])
        self.told(Word("fixed", base=2, width=4, fill="0", side="left"),
            [("1000", ["[1/2, 5/2)", "[7/2, 9/2)", "[15/2, 17/2)"])])
        self.told(Word("fixed", base=2, width=3, fill="0", side="left"),
            [("-10", ["(-5/2, -1/2]"]), ("000", ["(-1/2, 1/2)"])])

    def test_all_rows(self):
        for mode, places, fill, side in product(MODES, (0, 1), "01-.", SIDES):
            word = Word("fixed", places=places, mode=mode, width=4, fill=fill, side=side,
                sign="behind" if side == "left" else "minus")
            step = Fraction(1, 4 * 10 ** places)
            self.grouped_by_row(word, [top * step for top in range(-50, 51)])
        for mode, sign in product(MODES, SIGNS):
            word = Word("fixed", places=2, base=3, mode=mode, width=7, sign=sign, mark=True, group=("_", 1), fill="_")
            self.grouped_by_row(word, [Fraction(top, 54) for top in range(-200, 201)])

    def test_great_ones(self):
        for mode in MODES:
            for number in (Fraction(GREAT, 7), Fraction(-GREAT, 7), Fraction(1, GREAT), Fraction(-1, GREAT)):
                for word in (Word("fixed", places=12, mode=mode),
                        Word("fixed", places=7, base=36, mode=mode, group=("'", 5))):
                    text = row_by(word, number)
                    self.assertEqual(len(backs(word, text)), 1)
                    self.looked(word, text, [number])


class TestPower(TestBacks):
    def test_nought(self):
        self.told(Word("power"), [("0@0", ["[0, 0]"]), ("0@1", []), ("0@-0", []), ("-0@0", []), ("00@0", [])])
        self.told(Word("power", places=2, sign="plus"), [("+0.00@0", ["[0, 0]"]), ("-0.00@0", [])])

    def test_what_is_rounded_up_from_the_exponent_ahead(self):
        rows = [
            ("down", ["[1, 11/10)", "[99/10, 10)", "(-11/10, -1]"]),
            ("up", ["(99/100, 1]", "(49/5, 99/10]", "[-1, -99/100)"]),
            ("floor", ["[1, 11/10)", "[99/10, 10)", "[-1, -99/100)"]),
            ("roof", ["(99/100, 1]", "(49/5, 99/10]", "(-11/10, -1]"]),
            ("half", ["[199/200, 21/20)", "[197/20, 199/20)", "(-21/20, -199/200]"]),
            ("even", ["[199/200, 21/20]", "(197/20, 199/20)", "[-21/20, -199/200]"]),
        ]
        for mode, (one, nearly, below) in rows:
            word = Word("power", places=1, mode=mode)
            self.told(word, [("1.0@0", [one]), ("9.9@0", [nearly]), ("-1.0@0", [below])])

    def test_told_ones(self):
        self.told(Word("power"), [
            ("5@0", ["[9/2, 11/2)"]), ("9@0", ["[17/2, 19/2)"]), ("1@1", ["[19/2, 15)"]), ("1@0", ["[19/20, 3/2)"]),
            ("10@0", []), ("-10@0", []), ("01@0", []), ("1@+1", []), ("1@01", []), ("1@", []), ("@1", []), ("1", []),
            ("@", []), ("1@-1",
            ["[19/200, 3/20)"]), ("1@--1", []), ("1@1@1", []), ("1@-", []), ("-1@1", ["(-15, -19/2]"]), ("", []),
                ("1@ 1", []),
            ("1@a", []), ("1.0@0", [])])
        self.told(Word("power", places=3, step=3), [
            ("123.457@6", ["[123456500, 123457500)"]), ("1.000@3", ["[1999999/2000, 2001/2)"]), ("1000.000@0", []),
            ("-1000.000@0", []),
            ("1.000@1", []), ("0.999@3", []), ("12.345@-3", ["[24689/2000000, 24691/2000000)"]), ("1.000@4", [])])
        self.told(Word("power", step=2, mode="even"),
            [("99@0", ["(197/2, 199/2)"]), ("1@2", ["[199/2, 150)"]), ("1@1", [])])
        self.told(Word("power", base=16, places=1),
            [("f.f@1", ["[509/2, 511/2)"]), ("10.0@0", []), ("1.0@2", ["[511/2, 264)"])])

    def test_several_numerals(self):
        self.told(Word("power", width=5, fill="0", side="left"), [
            ("1@100", ["[19/2, 15)", "[9500000000, 15000000000)", f"[{95 * 10 ** 98}, {15 * 10 ** 99})"])])
        self.told(Word("power", width=4, fill="-", side="left", sign="behind"),
            [("1@0-", ["(-3/2, -19/20]", "[19/20, 3/2)"])])
        self.told(Word("power", width=5, fill="1"), [("111@0", ["[19/20, 3/2)"]), ("11@0", []), ("1111@0", [])])
        self.told(Word("power", width=4, fill="1"), [("11@0", ["[19/20, 3/2)"]), ("12@0", ["[3/2, 5/2)"])])
        self.told(Word("power", width=4, fill="1", step=2), [("11@0", ["[199/200, 3/2)", "[21/2, 23/2)"])])
        self.told(Word("power", width=6, fill="@", places=1), [("@1.0@0", ["[199/200, 21/20)"]), ("1.0@0@", [])])

    def test_all_rows(self):
        for base, step, places, mode in product((2, 3, 10), (1, 2, 3, 4), (0, 1), MODES):
            word = Word("power", base=base, step=step, places=places, mode=mode)
            near = [Fraction(top, 12) for top in range(-36, 37)]
            numbers = near + [number * base ** step for number in near] + [number / base ** step for number in near]
            self.grouped_by_row(word, sorted(set(numbers)))

    def test_all_rows_with_fills(self):
        for fill, side, sign in product("01-@.", SIDES, SIGNS):
            word = Word("power", width=7, fill=fill, side=side, sign=sign, places=1, step=2)
            self.grouped_by_row(word, [Fraction(top, 20) for top in range(-33,
                34)] + [Fraction(top) for top in range(95, 115)])

    def test_at_the_ends_of_exponents(self):
        for base, step, places, mode in product((2, 10, 36), (1, 3), (0, 2), MODES):
            word = Word("power", base=base, step=step, places=places, mode=mode, sign="brackets")
            for exponent in (-7, -3, -1, 0, 1, 2, 3, 8):
                at = Fraction(base) ** exponent
                for number in (at, -at, at * (1 - Fraction(1, 10 ** 9)), -at * (1 - Fraction(1, 10 ** 9))):
                    text = row_by(word, number)
                    self.assertEqual(len(backs(word, text)), 1)
                    self.looked(word, text, [number])

    def test_great_exponents(self):
        self.assertEqual(self.texts(Word("power", mode="down"), "1@999"), [f"[1{'0' * 999}, 2{'0' * 999})"])
        self.assertEqual(self.texts(Word("power", mode="down"), "-1@-999"), [f"(-1/5{'0' * 998}, -1/1{'0' * 999}]"])
        told = backs(Word("power", base=36, places=12, mode="floor"), "z." + "z" * 12 + "@999")
        self.assertEqual([(one.low, one.high) for one in told],
                         [(((36 ** 13 - 1) * 36 ** 987, 1), (36 ** 1000, 1))])


class TestAll(TestBacks):
    def test_by_chance(self):
        chance = random.Random(40)
        for count in range(2500):
            kind = chance.choice(("whole", "fixed", "power"))
            word = Word(
                kind, base=chance.choice((2, 3, 10, 16, 36)), width=chance.choice((0, 3, 6, 9, 12)),
                fill=chance.choice(" 01-+().@,#a"), side=chance.choice(SIDES), sign=chance.choice(SIGNS),
                mark=chance.random() < 0.3, group=(",", 2) if kind != "power" and chance.random() < 0.5 else None,
                places=0 if kind == "whole" else chance.randrange(4),
                mode="half" if kind == "whole" else chance.choice(MODES),
                step=chance.randrange(1, 5) if kind == "power" else 1)
            number = chance.randrange(-10 ** chance.randrange(1, 7), 10 ** 6)
            if kind != "whole":
                number = Fraction(number, chance.choice((1, 2, 3, 8, 1000, 10 ** 6)))
            text = row_by(word, number)
            self.looked(word, text, [number])
            at = chance.randrange(len(text))
            self.looked(word, text[:at] + chance.choice(" 01-+().@,#a") + text[at + chance.randrange(2):])

    def test_the_list_is_the_asker_s_own(self):
        word = Word("fixed", width=3, fill="1")
        told = backs(word, "111")
        before = list(told)
        told.clear()
        self.assertEqual(backs(word, "111"), before)
        none = backs(word, "")
        none.append(1)
        self.assertEqual(backs(word, ""), [])

    def test_arguments(self):
        self.assertEqual(signature_of(backs), [("word", False, "none"), ("text", False, "none")])
        self.assertEqual(self.texts(Word(), "5"), ["[5, 5]"])
        self.assertEqual(str(backs(text="5", word=Word())[0]), "[5, 5]")


if __name__ == "__main__":
    unittest.main()
