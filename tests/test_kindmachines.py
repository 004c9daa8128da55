"""[90]: machines of kinds, held against how many of a kind's things have each text as their row."""

import random
import unittest
from collections import Counter

from formatwords.counting import counted
from formatwords.kindmachines import machine_of
from formatwords.kinds import Cases, Choice, Listing, Named, Number, Only, Padded, Record, Sizes, Text
from formatwords.machines import Machine, runs
from formatwords.words import Word
from tests.helper import SIDES, SIGNS, WIDTH, counts_of, drawn_choice, drawn_kind, drawn_number, drawn_record
from tests.helper import drawn_sizes, drawn_text, number_of_word, numbers_with, short_things, signature_of, texts_of

NUMBER = Number(Word())
GREAT = 10 ** 59 + 12345678901234567890


class Held(unittest.TestCase):
    """What these tests ask."""

    def held(self, kind, most, counts=None):
        """Each text of so many signs at most has as many runs as things have it as their row."""
        machine = machine_of(kind)
        self.assertIsInstance(machine, Machine)
        counts = counts_of(kind, most) if counts is None else counts
        for row in counts:
            self.assertEqual(runs(machine, row), counts[row], (vars(kind), row))
        # So many runs, and no more: then no other text has one.
        for long in range(most + 1):
            told = sum(counts[row] for row in counts if len(row) == long)
            self.assertEqual(counted(machine, long), told, (vars(kind), long))
        return machine

    def texts(self, kind, signs, most):
        """The same, of each text of these signs."""
        machine, counts = self.held(kind, most), counts_of(kind, most)
        for text in texts_of(signs, most):
            self.assertEqual(runs(machine, text), counts[text], (vars(kind), text))

    def rows(self, kind, things):
        """The rows of these things, and rows bent by a sign, have as many runs as things are so written."""
        machine = machine_of(kind)
        for thing in things:
            self.assertTrue(kind.has(thing), thing)
            row = kind.write(thing)
            self.assertEqual(runs(machine, row), len(numbers_with(kind, row)), (vars(kind), row))
            for at in range(0, len(row), 9):
                for bent in (row[:at] + row[at + 1:], row[:at] + row[at] + row[at:], row[:at] + "0" + row[at + 1:],
                             row[:at] + "1" + row[at + 1:], row[:at] + "-" + row[at:], row + row[at]):
                    self.assertEqual(runs(machine, bent), len(numbers_with(kind, bent)), (vars(kind), bent))

    def none(self, kind, numbers):
        """These are no things, and have no runs."""
        machine = machine_of(kind)
        for number in numbers:
            self.assertFalse(kind.has(number))
            row = Number(kind.word, ahead=kind.ahead, behind=kind.behind).write(number)
            self.assertEqual(runs(machine, row), len(numbers_with(kind, row)), (vars(kind), row))


class TestInterface(unittest.TestCase):
    def test_arguments(self):
        self.assertEqual(signature_of(machine_of), [("kind", False, "none")])
        self.assertEqual(machine_of(kind=NUMBER), machine_of(NUMBER))

    def test_the_same_is_told_again(self):
        draw = random.Random(1)
        kinds = [drawn_kind(draw) for time in range(30)]
        machines = [machine_of(kind) for kind in kinds]
        for kind, machine in zip(kinds[::-1], machines[::-1]):
            self.assertEqual(machine_of(kind), machine)


class TestNumber(Held):
    def test_all_short_texts(self):
        for word in (Word(), Word(base=2, width=3, fill="0", side="left"), Word(base=2, sign="plus", fill="+", width=3),
                     Word(base=3, sign="behind", fill="-", side="middle", width=4), Word(base=2, group=(",", 1))):
            self.texts(Number(word), "012-+,"[:6 if word.base == 3 else 5], 4)
        self.texts(Number(Word("fixed", base=2, places=1, fill="1", width=4, side="left")), "01.-", 5)

    def test_each_side_sign_mark_group_and_fill(self):
        draw = random.Random(2)
        for side in SIDES + ["inner"]:
            for sign in SIGNS:
                for fill in " 0-+(":
                    word = Word(draw.choice(["whole", "fixed"]), base=draw.choice([2, 3]), width=draw.randint(2, 7),
                                fill=fill, side=side, sign=sign, mark=draw.random() < 0.2,
                                group=draw.choice([None, (",", 1), ("_", 2)]))
                    self.held(Number(word), 5)

    def test_bounds_of_either_sign(self):
        for low in (None, -13, -1, 0, 1, 9, 10):
            for high in (None, -13, -10, -1, 0, 1, 99, 100):
                if low is None or high is None or low <= high:
                    self.held(Number(Word(), least=low, most=high), 3)
                    self.held(Number(Word(base=2, width=4, fill="1", side="inner"), least=low, most=high), 5)
                    ends = [None if end is None else number_of_word(Word("fixed", places=1), end) for end in (low, high)]
                    self.held(Number(Word("fixed", places=1, sign="brackets"), least=ends[0], most=ends[1]), 4)

    def test_rest(self):
        for by in range(1, 13):
            for left in range(0, by, 3):
                self.held(Number(Word(base=3, sign="behind"), rest=(left, by)), 5)
                self.held(Number(Word(), least=-50, most=120, rest=(left, by), ahead="n"), 5)
        self.held(Number(Word(), least=1, most=4, rest=(0, 5)), 3, Counter())

    def test_texts_ahead_and_behind(self):
        for ahead in ("", "1", "-", "ab ", "0"):
            for behind in ("", "0", "1-", " kg"):
                self.held(Number(Word(base=2), ahead=ahead, behind=behind), 4 + len(ahead + behind))
                self.held(Number(Word(base=2, width=3, fill="0"), most=5, ahead=ahead, behind=behind), 6)

    def test_drawn(self):
        draw = random.Random(3)
        for time in range(150):
            self.held(drawn_number(draw), 4)

    def test_great_bounds(self):
        for group in (None, (",", 3), ("_", 9)):
            kind = Number(Word(group=group), least=-GREAT, most=GREAT)
            self.rows(kind, [GREAT, GREAT - 1, -GREAT, 0, -1, 10 ** 30, 1 - 10 ** 40, GREAT // 7])
            self.none(kind, [GREAT + 1, -GREAT - 1, 10 ** 60, -10 ** 60, GREAT * 2])

    def test_great_bounds_of_fractions(self):
        for base in (2, 10, 36):
            word = Word("fixed", base=base, places=12, sign="brackets", width=24, fill="*", side="left")
            low, high = [number_of_word(word, numeral) for numeral in (GREAT // 3, GREAT)]
            kind = Number(word, least=low, most=high)
            near = [number_of_word(word, numeral) for numeral in (GREAT - 1, GREAT // 3 + 1, GREAT // 2)]
            self.rows(kind, [low, high] + near[:1 if base == 2 else 3])
            self.none(kind, [number_of_word(word, numeral) for numeral in (GREAT + 1, GREAT // 3 - 1, 0, 5, -GREAT)])

    def test_great_rest(self):
        kind = Number(Word(), least=-GREAT, most=None, rest=(3, 7))
        first = -GREAT + (3 + GREAT) % 7
        self.rows(kind, [first, first + 7, 3, -4, 10 ** 59 + (3 - 10 ** 59) % 7])
        self.none(kind, [first - 7, first + 1, 4, 10 ** 59 + (4 - 10 ** 59) % 7])

    def test_without_end(self):
        kind = Number(Word(group=("'", 3), width=24, fill="0", side="inner"), least=GREAT)
        self.rows(kind, [GREAT, GREAT + 1, 10 ** 60 - 1])
        self.none(kind, [GREAT - 1, 1, 0, -GREAT, 10 ** 23])
        self.rows(Number(Word(sign="behind"), most=-GREAT), [-GREAT, -GREAT - 1, 1 - 10 ** 60])

    def test_wide_fills_of_digits(self):
        for side in SIDES + ["inner"]:
            for fill in "01 -":
                for sign in ("minus", "behind"):
                    kind = Number(Word(width=24, fill=fill, side=side, sign=sign), least=-10 ** 24)
                    self.rows(kind, [0, 10, -1, 10 ** 22 + 1, 10 ** 23, 10 ** 24, -10 ** 23])


class TestChoice(Held):
    def test_several_have_the_thing(self):
        kind = Choice([Only(1, "one"), Only(1, "uno"), Number(Word(), least=0, most=9), Only(0, "nil"),
                       Number(Word(width=3, fill="0", side="inner"), least=-5, most=20), Number(Word(sign="plus"))])
        machine = self.held(kind, 4)
        told = {"one": 1, "uno": 0, "1": 0, "001": 0, "+1": 0, "0": 1, "nil": 0, "000": 0, "2": 1, "002": 0, "010": 1,
                "-05": 1, "-6": 1, "-06": 0, "+21": 1, "+20": 0, "021": 0}
        self.assertEqual({text: runs(machine, text) for text in told}, told)

    def test_several_write_the_same_row(self):
        kind = Choice([Only(3, "0"), Only(4, "0"), Number(Word(), least=0, most=1), Number(Word(), ahead="1", rest=(0, 2))])
        machine = self.held(kind, 4)
        self.assertEqual(runs(machine, "0"), 3)
        self.assertEqual(runs(machine, "12"), 1)
        self.assertEqual(runs(machine, "11"), 0)

    def test_rests(self):
        kinds = [Number(Word(), rest=(left, by), ahead=mark) for left, by, mark in
                 [(0, 4, "a"), (1, 6, "b"), (2, 10, "c"), (7, 12, "d"), (3, 5, "e")]]
        machine = self.held(Choice(kinds), 4)
        for number in (GREAT, -GREAT, GREAT + 7, 10 ** 59, 33, -33):
            for at, kind in enumerate(kinds):
                told = kind.has(number) and not any(one.has(number) for one in kinds[:at])
                self.assertEqual(runs(machine, f"{kind.ahead}{number}"), int(told), (number, kind.ahead))

    def test_fractions(self):
        word = Word("fixed", places=2)
        kind = Choice([Only((1, 2), "half"), Number(word, least=(0, 1), most=(1, 1)), Only((3, 4), "no"),
                       Number(Word("fixed", places=2, width=6, fill="0", side="inner"), rest=(0, 5))])
        machine = self.held(kind, 5)
        told = {"half": 1, "0.50": 0, "0.75": 1, "no": 0, "000.50": 0, "-00.05": 1, "-00.04": 0, "001.05": 1, "1.05": 0}
        self.assertEqual({text: runs(machine, text) for text in told}, told)
        self.held(Choice([Only((1, 3), "a"), Only((1, 7), "b"), Only((1, 3), "c")]), 3, Counter("ab"))

    def test_drawn(self):
        draw = random.Random(4)
        for time in range(100):
            self.held(drawn_choice(draw), 4)


class TestText(Held):
    def test_plain(self):
        self.texts(Text("ab"), "abc", 4)
        self.texts(Text("ab", least=1, most=3), "abc", 5)
        self.texts(Text("ab", least=2, most=2), "abc", 4)
        self.texts(Text("ab", most=0), "ab", 2)
        self.texts(Text(" a"), " a~", 4)
        self.texts(Text(" a~", quote=" ", most=3), " a~", 5)

    def test_quotes(self):
        self.texts(Text("'a", quote="'"), "'ab", 6)
        self.texts(Text("ab", quote="'"), "'ab", 5)
        self.texts(Text("a", quote="a", least=1, most=2), "ab", 7)

    def test_fills_among_the_signs(self):
        for side in SIDES:
            self.texts(Text("ab", width=4, fill="a", side=side), "ab", 6)
            self.texts(Text("'a", width=5, fill="'", side=side, quote="'"), "'a", 6)
            self.texts(Text("ab", width=4, fill="c", side=side, least=1, most=5), "abc", 6)

    def test_all_signs(self):
        signs = "".join(chr(code) for code in range(32, 127) if code != 37)
        machine = machine_of(Text(signs, quote='"', width=24))
        for text in (signs, signs[::-1], "", '"', '""', "x" * 300):
            self.assertEqual(runs(machine, Text(signs, quote='"', width=24).write(text)), 1)
        self.assertEqual(runs(machine, '"a"b"' + " " * 19), 0)
        self.assertEqual([counted(machine, long) for long in (23, 24)], [0, sum(94 ** 0 * counted(
            machine_of(Text(signs, quote='"')), long) for long in range(25))])

    def test_drawn(self):
        draw = random.Random(5)
        for time in range(100):
            self.held(drawn_text(draw), 6)

    def test_long_ones(self):
        machine = machine_of(Text("a", least=300, most=350))
        self.assertEqual([runs(machine, "a" * long) for long in (299, 300, 350, 351, 400)], [0, 1, 1, 0, 0])
        machine = machine_of(Text("a", least=10 ** 59, most=10 ** 59 + 1))
        self.assertEqual([runs(machine, "a" * long) for long in (0, 1, 399, 400)], [0, 0, 0, 0])
        machine = machine_of(Text("a", most=10 ** 59))
        self.assertEqual([runs(machine, "a" * long) for long in (0, 1, 399, 400)], [1, 1, 1, 1])


class TestSizes(Held):
    def test_plain(self):
        kind = Sizes((24, 60, 60), ("d ", ":", ":"))
        machine = machine_of(kind)
        told = {"1d 03:05:07": 1, "01d 03:05:07": 0, "1d 24:05:07": 0, "0d 00:00:00": 1, "1d 3:05:07": 0,
                "123456789d 23:59:59": 1, "1d 03:60:07": 0, "d 03:05:07": 0}
        self.assertEqual({text: runs(machine, text) for text in told}, told)

    def test_marks_of_figures(self):
        self.held(Sizes((2, 11), ("0", "1")), 7)
        self.held(Sizes([1000, 2], ["00", "0"]), 8)

    def test_drawn(self):
        draw = random.Random(6)
        for time in range(20):
            self.held(drawn_sizes(draw), 5)


class TestRecord(Held):
    def test_plain(self):
        self.held(Record([]), 2, Counter([""]))
        self.held(Record(["ab", "c"]), 4, Counter(["abc"]))
        self.texts(Record([("a", Text("ab")), "a", ("b", Text("b"))]), "ab", 5)
        self.held(Record([("a", NUMBER), ("b", Number(Word(base=3)))]), 3)

    def test_widths_ahead_behind_and_unwritten(self):
        width = Number(Word(), least=0, most=4)
        wide = ("n", Number(Word(fill="0", base=3)), "w")
        for pieces, unwritten in [([wide, ("w", width)], []), ([("w", width), wide], []), ([wide], [("w", width)]),
                                  ([("w", width), ":", wide, ("m", Number(Word(base=2), least=0), "w")], []),
                                  ([wide, ":", ("m", Number(Word(base=3, side="left")), "v"), ("v", width), ("w", width)], []),
                                  ([wide, ("m", Number(Word(base=3, side="left")), "v")], [("v", width), ("w", width)])]:
            self.held(Record(pieces, unwritten=unwritten), 4)

    def test_the_width_of_none(self):
        kind = Record([("a", NUMBER)], unwritten=[("v", WIDTH), ("w", Number(Word(), least=1, most=9, rest=(1, 2)))])
        self.assertEqual(runs(machine_of(kind), "-17"), 125)
        self.assertEqual(runs(machine_of(Record([], unwritten=[("v", WIDTH)])), ""), 25)
        self.held(Record([("a", NUMBER)], unwritten=[("w", Number(Word(), least=1, most=1, rest=(0, 2)))]), 3, Counter())

    def test_all_widths(self):
        kind = Record([("n", Number(Word(fill="*", sign="plus")), "w"), "|", ("w", WIDTH)])
        machine = machine_of(kind)
        for width in range(25):
            for number in (0, -5, 12345, 10 ** 23, -10 ** 40):
                row = kind.write({"n": number, "w": width})
                self.assertEqual(runs(machine, row), 1, row)
                self.assertEqual(runs(machine, "*" + row), 0, row)
                self.assertEqual(runs(machine, row + "0"), 1 if row.endswith(("|1", "|2")) and width * 10 <= len(
                    f"{number:+}") else 0, row)

    def test_two_others_of_all_widths(self):
        kind = Record([("a", Number(Word(fill=".")), "v"), ("b", Number(Word(fill="_", side="left")), "w"), "!",
                       ("v", WIDTH), ",", ("w", WIDTH)])
        machine = machine_of(kind)
        for thing in ({"a": 5, "b": -7, "v": 24, "w": 24}, {"a": -5, "b": 7, "v": 3, "w": 0}):
            self.assertEqual(runs(machine, kind.write(thing)), 1)
        self.assertEqual(runs(machine, "110!0,0"), 2)
        self.assertEqual(runs(machine, "110!1,0"), 2)
        self.assertEqual(runs(machine, "110!3,0"), 0)

    def test_drawn(self):
        draw = random.Random(7)
        for time in range(60):
            self.held(drawn_record(draw, 1), 4)


class TestListing(Held):
    def test_counts_of_things(self):
        for least, most in [(0, None), (0, 0), (0, 1), (1, 1), (1, None), (2, 3), (3, None), (0, 5)]:
            self.texts(Listing(Text("a", most=2), ",", least=least, most=most), "a,b", 6)
            self.held(Listing(Number(Word(base=3)), "0", least=least, most=most), 4)
            self.held(Listing(Number(Word(base=2), least=0), "10", least=least, most=most), 6)

    def test_the_text_between_in_the_rows(self):
        self.texts(Listing(Text("ab"), "a"), "ab", 6)
        self.texts(Listing(Text("ab", least=1), "ab"), "ab", 7)
        self.held(Listing(Number(Word(base=2, group=(",", 2))), ","), 6)

    def test_within_one_another(self):
        self.texts(Listing(Listing(Text("a", most=1), ","), ";"), "a,;", 5)
        kind = NUMBER
        for between in ",;:|/":
            kind = Listing(kind, between, least=1)
        machine = machine_of(kind)
        self.assertEqual(runs(machine, "1,2;3:4|5/6;-7"), 1)
        self.assertEqual(runs(machine, "1,2;3:4|5//6"), 0)

    def test_no_things(self):
        self.held(Listing(Named("a"), ","), 3, Counter([""]))
        self.held(Listing(Named("a"), ",", least=1), 3, Counter())
        self.held(Listing(Record([]), "ab"), 8, Counter({"": 2, "ab": 1, "abab": 1, "ababab": 1, "abababab": 1}))

    def test_great_counts(self):
        machine = machine_of(Listing(Text("a"), ",", least=100, most=150))
        told = [runs(machine, "," * long) for long in (98, 99, 149, 150, 399)]
        self.assertEqual(told, [0, 1, 1, 0, 0])
        machine = machine_of(Listing(Text("a"), ",", least=10 ** 58, most=10 ** 59))
        self.assertEqual(runs(machine, "," * 400), 0)
        self.assertEqual(runs(machine_of(Listing(Text("a"), ",", most=10 ** 59)), "," * 400), 1)


class TestCasesAndPadded(Held):
    def test_cases_with_alike_rows(self):
        kind = Cases([("a", NUMBER), ("b", Text("-0123456789")), ("c", Only(5, "5")), ("d", Named("x"))])
        machine = machine_of(kind)
        told = {"5": 3, "05": 1, "-": 1, "": 1, "-12": 2, "x": 0}
        self.assertEqual({text: runs(machine, text) for text in told}, told)
        self.held(Cases([("a", NUMBER), ("b", NUMBER), ("c", Number(Word(), least=0))]), 3)
        self.held(Cases([(name, Text("a", most=1)) for name in "abcdefgh"]), 2, Counter({"": 8, "a": 8}))

    def test_padded_of_each_side(self):
        for side in SIDES:
            for width in range(6):
                self.held(Padded(Listing(Number(Word(base=2)), ","), width, fill="1", side=side), 5)
                self.held(Padded(Text("ab"), width, fill=" ", side=side), 6)
                self.held(Padded(Padded(Text("a"), width, fill="a"), 4, side=side), 6)

    def test_padded_of_none(self):
        self.held(Padded(Named("a"), 5), 6, Counter())
        self.held(Padded(Record([]), 3, fill="x"), 4, Counter(["xxx"]))

    def test_named(self):
        self.held(Named("a"), 3, Counter())
        self.held(Record([("a", Named("b"))]), 2, Counter())
        self.held(Record([("a", Listing(Named("b"), ",")), ("b", Only(1, "x"))]), 2, Counter("x"))
        self.held(Cases([("a", Named("b")), ("c", Only(1, "x"))]), 2, Counter("x"))


class TestKinds(Held):
    def test_drawn(self):
        draw = random.Random(8)
        for time in range(120):
            kind = drawn_kind(draw, draw.choice([1, 2, 2]))
            self.held(kind, 3)

    def test_deep_ones(self):
        draw = random.Random(9)
        for time in range(40):
            kind = drawn_kind(draw, 5)
            if len(short_things(kind, 2)) < 3000:
                self.held(kind, 2)

    def test_six_within_one_another(self):
        word = Word(group=(",", 3), width=12, fill="*")
        kind = Number(word, least=-GREAT, most=GREAT)
        kind = Record([("n", kind), ": ", ("t", Text("abc", quote="'"))])
        kind = Cases([("a", Listing(kind, "; ")), ("b", Padded(kind, 24, side="middle"))])
        kind = Listing(Padded(kind, 20, fill="_"), "|", least=1)
        machine = machine_of(kind)
        one = [{"n": 1234567, "t": "ab"}, {"n": -GREAT, "t": "c'"[:1]}]
        for thing in ([("a", one)], [("b", one[0]), ("a", []), ("a", one)], [("a", [])] * 3):
            self.assertEqual(runs(machine, kind.write(thing)), 1, kind.write(thing))
            self.assertEqual(runs(machine, kind.write(thing) + "|"), 0)


if __name__ == "__main__":
    unittest.main()
