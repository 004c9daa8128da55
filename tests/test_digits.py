"""[10]: digits, and [2] where it speaks of them."""

import unittest

from formatwords.digits import TEN, digits_of, grouped, number_of
from formatwords.errors import NoDigits
from tests.helper import NO_TEXTS, refusal, signature_of

SIGNS = "0123456789abcdefghijklmnopqrstuvwxyz"
GREAT = 123456789012345678901234567890123456789012345678901234567890


def by_hand(number, base):
    text = ""
    while number:
        number, left = divmod(number, base)
        text = SIGNS[left] + text
    return text or "0"


class TestDigitsOf(unittest.TestCase):
    def test_told_ones(self):
        rows = [
            (0, 2, "0"), (1, 2, "1"), (2, 2, "10"), (10, 2, "1010"), (255, 16, "ff"), (256, 16, "100"),
            (35, 36, "z"), (36, 36, "10"), (1295, 36, "zz"), (1296, 36, "100"), (11, 12, "b"), (12, 12, "10"),
            (26, 3, "222"), (27, 3, "1000"), (1234567890, 10, "1234567890"),
        ]
        for number, base, text in rows:
            self.assertEqual(digits_of(number, base=base), text)
            self.assertEqual(number_of(text, base=base), number)

    def test_nought_of_each_base(self):
        for base in range(2, 37):
            self.assertEqual(digits_of(0, base=base), "0")
            self.assertEqual(number_of("0", base=base), 0)

    def test_each_base(self):
        for base in range(2, 37):
            for number in list(range(200)) + [GREAT, GREAT + 1, 10 ** 59, 10 ** 60 - 1]:
                text = digits_of(number, base=base)
                self.assertEqual(text, by_hand(number, base))
                self.assertEqual(number_of(text, base=base), number)
                self.assertEqual(number_of(text, base=base), int(text, base))

    def test_beside_powers(self):
        for base in range(2, 37):
            for exponent in range(1, 38):
                self.assertEqual(digits_of(base ** exponent, base=base), "1" + "0" * exponent)
                self.assertEqual(digits_of(base ** exponent - 1, base=base), SIGNS[base - 1] * exponent)
                self.assertEqual(digits_of(base ** exponent + 1, base=base), "1" + "0" * (exponent - 1) + "1")

    def test_base_ten_where_left_out(self):
        self.assertEqual(TEN, 10)
        for number in (0, 9, 10, 99, 100, 101, GREAT):
            self.assertEqual(digits_of(number), str(number))
            self.assertEqual(number_of(str(number)), number)
        self.assertEqual(refusal(self, NoDigits, number_of, "1a").at, 1)

    def test_a_text_is_told(self):
        self.assertIs(type(digits_of(7)), str)
        self.assertIs(type(number_of("1")), int)
        self.assertIs(type(number_of("0")), int)


class TestNumberOf(unittest.TestCase):
    def test_noughts_ahead(self):
        for base in (2, 3, 10, 16, 36):
            for count in (1, 2, 7, 300):
                self.assertEqual(number_of("0" * count, base=base), 0)
                self.assertEqual(number_of("0" * count + "1", base=base), 1)
                self.assertEqual(number_of("0" * count + "10", base=base), base)

    def test_first_sign_that_is_no_digit(self):
        rows = [
            ("2", 2, 0), ("12", 2, 1), ("10201", 2, 2), ("1012", 2, 3), ("a", 10, 0), ("1a1", 10, 1), ("111a", 10, 3),
            ("g", 16, 0), ("fgf", 16, 1), ("ffg", 16, 2), ("z", 35, 0), ("yz", 35, 1), ("8", 8, 0), ("778", 8, 2),
            ("2a2a", 2, 0), ("zzz.", 36, 3),
        ]
        for text, base, at in rows:
            with self.subTest(text=text, base=base):
                self.assertEqual(refusal(self, NoDigits, number_of, text, base=base).at, at)

    def test_each_sign_of_each_base(self):
        for base in range(2, 37):
            for worth, sign in enumerate(SIGNS):
                if worth < base:
                    self.assertEqual(number_of("1" + sign, base=base), base + worth)
                else:
                    self.assertEqual(refusal(self, NoDigits, number_of, "1" + sign, base=base).at, 1)

    def test_capitals(self):
        for sign in SIGNS[10:].upper():
            self.assertEqual(refusal(self, NoDigits, number_of, sign, base=36).at, 0)
            self.assertEqual(refusal(self, NoDigits, number_of, "ff" + sign, base=36).at, 2)

    def test_other_signs(self):
        for code in range(32, 127):
            sign = chr(code)
            if sign not in SIGNS and code != 37:
                self.assertEqual(refusal(self, NoDigits, number_of, sign, base=36).at, 0)
                self.assertEqual(refusal(self, NoDigits, number_of, "1" + sign + "1", base=36).at, 1)
                self.assertEqual(refusal(self, NoDigits, number_of, "11" + sign, base=2).at, 2)
        for text, at in (("-1", 0), ("+1", 0), (" 1", 0), ("1 ", 1), ("1_0", 1), ("1,0", 1), ("1.0", 1), ("1\n", 1)):
            self.assertEqual(refusal(self, NoDigits, number_of, text).at, at)

    def test_without_signs(self):
        for base in (2, 10, 36):
            self.assertEqual(refusal(self, NoDigits, number_of, "", base=base).at, 0)

    def test_no_texts(self):
        for thing in NO_TEXTS:
            for base in (2, 10, 36):
                self.assertEqual(refusal(self, NoDigits, number_of, thing, base=base).at, 0)


class TestGrouped(unittest.TestCase):
    def test_told_ones(self):
        rows = [
            ("1", ",", 3, "1"), ("12", ",", 3, "12"), ("123", ",", 3, "123"), ("1234", ",", 3, "1,234"),
            ("123456", ",", 3, "123,456"), ("1234567", ",", 3, "1,234,567"), ("123", "_", 1, "1_2_3"),
            ("12345", "'", 2, "1'23'45"), ("1234567890", "_", 9, "1_234567890"), ("123456789", "_", 9, "123456789"),
            ("00ff", "_", 2, "00_ff"),
        ]
        for digits, sign, size, text in rows:
            self.assertEqual(grouped(digits, sign, size), text)

    def test_each_size(self):
        for size in range(1, 10):
            for count in range(1, 40):
                digits = (SIGNS * 2)[:count]
                parts = grouped(digits, ",", size).split(",")
                self.assertEqual("".join(parts), digits)
                self.assertTrue(all(len(part) == size for part in parts[1:]))
                self.assertTrue(1 <= len(parts[0]) <= size)


class TestArguments(unittest.TestCase):
    def test_names_and_defaults(self):
        self.assertEqual(signature_of(digits_of), [("number", False, "none"), ("base", True, 10)])
        self.assertEqual(signature_of(number_of), [("text", False, "none"), ("base", True, 10)])
        self.assertEqual(signature_of(grouped), [(name, False, "none") for name in ("digits", "sign", "size")])

    def test_by_names(self):
        self.assertEqual(digits_of(base=16, number=255), "ff")
        self.assertEqual(number_of(base=16, text="ff"), 255)
        self.assertEqual(grouped(size=2, sign="_", digits="12345"), "1_23_45")
        self.assertEqual(grouped("12345", size=2, sign="_"), "1_23_45")

    def test_base_by_its_name_alone(self):
        self.assertRaises(TypeError, digits_of, 255, 16)
        self.assertRaises(TypeError, number_of, "ff", 16)


if __name__ == "__main__":
    unittest.main()
