"""[92] kind_clear and kinds_apart, [93] kind_counted and kind_ranked, of [4] what these are for."""

import random
import unittest

from formatwords.asking import kind_clear, kind_counted, kind_ranked, kinds_apart
from formatwords.decidelooks import shows_apart, shows_clear
from formatwords.errors import TooFar, Unclear
from formatwords.kinds import Cases, Choice, Listing, Named, Number, Only, Padded, Record, Sizes, Text
from formatwords.machines import Machine, runs
from formatwords.words import Word
from tests.helper import WIDTH, drawn_kind, is_apart_paper, is_clear_paper, refusal, short_things, signature_of

NUMBER = Number(Word())
GREAT = 10 ** 59 + 31415926535897932384
NONE = [Named("a"), Record([("a", Named("a"))]), Number(Word(), least=1, most=1, rest=(0, 2)),
        Listing(Named("a"), ",", least=1), Padded(Named("a"), 4), Cases([("a", Named("b"))])]
DATE = Record([("y", Number(Word(width=4, fill="0"), least=0, most=9999)), "-",
               ("m", Number(Word(width=2, fill="0"), least=1, most=12)), "-",
               ("d", Number(Word(width=2, fill="0"), least=1, most=31))])
CLEAR = [NUMBER, Number(Word(group=(",", 3)), least=-GREAT, most=GREAT), Number(Word(width=24, fill="*", side="middle")),
         Number(Word("fixed", places=12, sign="behind", width=20), rest=(3, 7)), DATE, Listing(DATE, "; ", least=1),
         Sizes((24, 60, 60), ("d ", ":", ":")), Sizes((10, 2), ("1", "0")), Text("'a", quote="'", width=9),
         Listing(NUMBER, ",", most=40), Cases([("a", NUMBER), ("b", Text("abc", least=1))]), Record([]), Only(1, "x"),
         Choice([Only(0, "none"), Number(Word(), rest=(1, 2)), Number(Word(mark=True))]),
         Record([("n", Number(Word(fill="*")), "w"), ":", ("w", WIDTH)]), Padded(Listing(NUMBER, ","), 24, side="left")]
ALIKE = [(Listing(Listing(NUMBER, ","), ";"), ""), (Number(Word(width=3, fill="0", side="left")), "-10"),
         (Record([("a", NUMBER), ("b", NUMBER)]), "110"), (Record([("a", Text("ab")), ("b", Text("ab"))]), "a"),
         (Listing(Number(Word(group=(",", 3))), ","), "1,100"), (Cases([("a", NUMBER), ("b", NUMBER)]), "0"),
         (Choice([Only(12, "x"), Only(13, "x5"), Number(Word(), ahead="x", least=0)]), "x5"),
         (Record(["ab"], unwritten=[("w", WIDTH)]), "ab"),
         (Record([("n", Number(Word(), least=100)), ("m", Number(Word(), least=0))]), "10010"),
         (Text("a", width=3, fill="a"), "aaa"), (Padded(Text(" a", most=2), 2), "  ")]


class Held(unittest.TestCase):
    """What these tests ask."""

    def is_clear(self, kind):
        word, machine, paper = told = kind_clear(kind)
        self.assertEqual(word, "clear")
        self.assertIs(type(told), tuple)
        self.assertIsInstance(machine, Machine)
        self.assertIs(type(paper), list)
        self.assertTrue(shows_clear(machine, paper))
        return machine, paper

    def is_alike(self, kind):
        word, text, one, two = told = kind_clear(kind)
        self.assertEqual(word, "alike")
        self.assertIs(type(told), tuple)
        self.assertNotEqual(one, two)
        for thing in (one, two):
            self.assertTrue(kind.has(thing))
            self.assertEqual(kind.write(thing), text)
        return text

    def is_apart(self, one, other):
        word, machine, second, paper = told = kinds_apart(one, other)
        self.assertEqual(word, "apart")
        self.assertIs(type(told), tuple)
        self.assertTrue(shows_apart(machine, second, paper))
        return machine, second, paper

    def is_met(self, one, other):
        word, text, thing, second = kinds_apart(one, other)
        self.assertEqual(word, "met")
        self.assertEqual([one.write(thing), other.write(second)], [text, text])
        return text


class TestInterface(unittest.TestCase):
    def test_arguments(self):
        plain = "none"
        self.assertEqual(signature_of(kind_clear), [("kind", False, plain)])
        self.assertEqual(signature_of(kinds_apart), [("one", False, plain), ("other", False, plain)])
        self.assertEqual(signature_of(kind_counted), [("kind", False, plain), ("long", False, plain)])
        self.assertEqual(signature_of(kind_ranked), [("kind", False, plain), ("number", False, plain)])
        self.assertEqual(kind_counted(long=2, kind=NUMBER), 99)
        self.assertEqual(kind_ranked(number=11, kind=NUMBER), ("-2", -2))
        self.assertEqual(kinds_apart(other=NUMBER, one=Only(3, "5")), ("met", "5", 3, 5))


class TestClear(Held):
    def test_clear(self):
        for kind in CLEAR:
            machine, paper = self.is_clear(kind)
            if machine.many < 200:
                self.assertTrue(is_clear_paper(machine, paper))
            for row, thing in short_things(kind, 2):
                self.assertEqual(runs(machine, row), 1)

    def test_alike(self):
        for kind, text in ALIKE:
            with self.subTest(text=text):
                self.assertEqual(self.is_alike(kind), text)

    def test_no_things(self):
        for kind in NONE:
            self.is_clear(kind)

    def test_great_numbers(self):
        word = Word(group=("'", 3))
        kind = Choice([Number(word, least=GREAT), Number(word, most=GREAT - 1, ahead="0"), Only(GREAT - 5, "1")])
        self.is_clear(kind)
        kind = Cases([("a", Number(word, least=GREAT)), ("b", Number(word, most=GREAT, rest=(GREAT % 11, 11)))])
        self.assertEqual(self.is_alike(kind), word_row(word, GREAT))
        self.is_clear(Cases([("a", Number(word, least=GREAT)), ("b", Number(word, most=GREAT - 1))]))

    def test_the_shortest_and_first(self):
        draw = random.Random(21)
        for time in range(120):
            kind = drawn_kind(draw, draw.choice([1, 2]))
            rows = {}
            for row, thing in short_things(kind, 3):
                rows[row] = rows.get(row, 0) + 1
            twice = sorted((len(row), row) for row in rows if rows[row] > 1)
            if kind_clear(kind)[0] == "clear":
                self.is_clear(kind)
                self.assertEqual(twice, [])
            elif twice:
                self.assertEqual(self.is_alike(kind), twice[0][1])
            else:
                self.assertGreater(len(self.is_alike(kind)), 3)

    def test_told_again(self):
        kinds = CLEAR[:4] + [kind for kind, text in ALIKE]
        first = [kind_clear(kind) for kind in kinds]
        for told in first:
            for part in told[2:]:
                if type(part) in (list, dict):
                    part.clear()
        again = [kind_clear(kind) for kind in kinds[::-1]][::-1]
        for kind, one, other in zip(kinds, first, again):
            self.assertEqual(one[:2], other[:2])
            self.is_alike(kind) if one[0] == "alike" else self.is_clear(kind)
        for one, other in zip(again, [kind_clear(kind) for kind in kinds]):
            self.assertEqual(one, other)


def word_row(word, number):
    """The row of a number by a Word."""
    return Number(word).write(number)


class TestApart(Held):
    def test_apart(self):
        pairs = [(NUMBER, Text("abc", least=1)), (DATE, NUMBER), (Number(Word(), most=GREAT), Number(Word(), least=GREAT + 1)),
                 (Number(Word(), rest=(1, 12)), Number(Word(), rest=(7, 12))), (Only(1, "x"), Only(1, "y")),
                 (Listing(NUMBER, ",", least=2), NUMBER), (Padded(NUMBER, 5), Text("0123456789", most=4))]
        for one, other in pairs:
            machine, second, paper = self.is_apart(one, other)
            if machine.many * second.many < 20000:
                self.assertTrue(is_apart_paper(machine, second, paper))
            self.is_apart(other, one)
            for row, thing in short_things(one, 2):
                self.assertEqual([runs(machine, row) > 0, runs(second, row)], [True, 0])

    def test_met(self):
        for one, other, text in [(NUMBER, Text("0123456789"), "0"), (DATE, Text("-0123456789"), "0000-01-01"),
                                 (Number(Word(), most=GREAT), Number(Word(), least=GREAT), str(GREAT)),
                                 (Number(Word(), rest=(1, 12)), Number(Word(), least=5, rest=(3, 5)), "13"),
                                 (Listing(NUMBER, ","), Listing(Text("x"), ","), ""), (Only(1, "x"), Only(2, "x"), "x"),
                                 (Listing(NUMBER, ",", least=2), Number(Word(group=(",", 3))), "1,100")]:
            self.assertEqual(self.is_met(one, other), text)
            self.assertEqual(self.is_met(other, one), text)

    def test_with_itself(self):
        for kind in CLEAR[:8]:
            self.is_met(kind, kind)
        for kind, text in ALIKE:
            self.is_met(kind, kind)

    def test_no_things(self):
        for kind in NONE:
            self.is_apart(kind, NUMBER)
            self.is_apart(NUMBER, kind)
            self.is_apart(kind, kind)

    def test_drawn(self):
        draw = random.Random(22)
        kinds = [drawn_kind(draw, 1) for time in range(60)]
        rows = [{row for row, thing in short_things(kind, 3)} for kind in kinds]
        for at in range(60):
            for other in (at, at - 1, at - 7):
                common = sorted((len(row), row) for row in rows[at] & rows[other])
                if kinds_apart(kinds[at], kinds[other])[0] == "apart":
                    self.is_apart(kinds[at], kinds[other])
                    self.assertEqual(common, [])
                elif common:
                    self.assertEqual(self.is_met(kinds[at], kinds[other]), common[0][1])
                else:
                    self.assertGreater(len(self.is_met(kinds[at], kinds[other])), 3)


class TestCounted(unittest.TestCase):
    def test_short(self):
        draw = random.Random(23)
        for time in range(60):
            kind = drawn_kind(draw, 1)
            rows = [row for row, thing in short_things(kind, 3)]
            for long in range(4):
                self.assertEqual(kind_counted(kind, long), sum(len(row) == long for row in rows))

    def test_great(self):
        self.assertEqual(kind_counted(NUMBER, 61), 9 * 10 ** 60 + 9 * 10 ** 59)
        self.assertEqual(kind_counted(Number(Word(), least=0, most=GREAT), 60), GREAT - 10 ** 59 + 1)
        self.assertEqual(kind_counted(Number(Word(), least=0, most=GREAT), 61), 0)
        self.assertEqual(kind_counted(Number(Word(width=24, fill="0"), least=0), 24), 10 ** 24)
        self.assertEqual(kind_counted(Text("ab"), 1000), 2 ** 1000)
        self.assertEqual(kind_counted(Listing(Text("a"), ","), 500), 2 ** 500)
        self.assertEqual(kind_counted(DATE, 10), 10000 * 12 * 31)
        self.assertEqual(kind_counted(DATE, 10 ** 9), 0)
        self.assertEqual(kind_counted(Cases([("a", Text("ab")), ("b", Text("ab"))]), 40), 2 ** 41)
        self.assertEqual(kind_counted(Record([], unwritten=[("w", WIDTH)]), 0), 25)
        self.assertEqual(kind_counted(Sizes((1000,), ("d",)), 14), 9 * 10 ** 9 * 1000)
        for kind in NONE:
            self.assertEqual([kind_counted(kind, long) for long in (0, 1, 50)], [0, 0, 0])

    def test_rest(self):
        for by in range(1, 13):
            kind = Number(Word(), least=0, most=10 ** 30 - 1, rest=(0, by))
            told = (10 ** 30 - 1) // by - (10 ** 29 - 1) // by
            self.assertEqual(kind_counted(kind, 30), told)


class TestRanked(unittest.TestCase):
    def test_there_and_back(self):
        for kind in CLEAR:
            rows = sorted(short_things(kind, 3), key=lambda told: (len(told[0]), told[0]))
            for number, (row, thing) in list(enumerate(rows))[::max(1, len(rows) // 20)]:
                self.assertEqual(kind_ranked(kind, number), (row, thing))

    def test_great(self):
        text, number = kind_ranked(NUMBER, 10 ** 40)
        self.assertEqual(str(number), text)
        # Ahead of all others of as many signs stand those below nought.
        ahead = 10 + sum(9 * 10 ** (long - 1) + 9 * 10 ** (long - 2) for long in range(2, len(text)))
        below = 9 * 10 ** (len(text) - 2)
        self.assertEqual(10 ** 40 - ahead, below + number - 10 ** (len(text) - 1) if number > 0 else
                         -number - 10 ** (len(text) - 2))
        many = 10000 * 12 * 31
        self.assertEqual(kind_ranked(DATE, many - 1), ("9999-12-31", {"y": 9999, "m": 12, "d": 31}))
        self.assertEqual(kind_ranked(DATE, 31), ("0000-02-01", {"y": 0, "m": 2, "d": 1}))

    def test_too_far(self):
        for kind, many in [(DATE, 3720000), (Only(1, "x"), 1), (Record([]), 1), (Named("a"), 0), (Text("ab", most=3), 15),
                           (Number(Word(), least=-GREAT, most=GREAT), 2 * GREAT + 1), (Listing(Named("a"), ","), 1)]:
            for number in (many, many + 1, many + 10 ** 70):
                self.assertEqual(refusal(self, TooFar, kind_ranked, kind, number).many, many)
            if many:
                self.assertEqual(len(kind_ranked(kind, many - 1)), 2)

    def test_unclear(self):
        for kind, text in ALIKE:
            for number in (0, 10 ** 50):
                self.assertEqual(refusal(self, Unclear, kind_ranked, kind, number).text, text)

    def test_told_again(self):
        kind = Listing(Record([("a", NUMBER)]), ",")
        text, thing = kind_ranked(kind, 1000)
        thing.clear()
        self.assertEqual(kind_ranked(kind, 1000)[0], text)
        self.assertEqual(kind.write(kind_ranked(kind, 1000)[1]), text)


if __name__ == "__main__":
    unittest.main()
