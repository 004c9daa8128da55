"""[80] to [85], [100]: the things of kinds, and their rows."""

import random
import unittest
from fractions import Fraction

from formatwords.errors import NoThing
from formatwords.kinds import Cases, Choice, Listing, Named, Number, Only, Padded, Record, Sizes, Text
from formatwords.words import Word
from tests.helper import THINGS, drawn_word, fraction_of, refusal, row_by

WHOLE = Word()
FIXED = Word("fixed", places=2)
NUMBER = Number(WHOLE)
WIDTH = Number(WHOLE, least=0, most=24)
MORE_THINGS = THINGS + [
    -1, 7, 10 ** 60, 1.5, b"a", (1, 2), (2, 4), (1, -2), (-1, 2), (1, 0), (True, 2), (1, True), (1, 2, 3), (None, 1), ("a", 1),
    ("a", [1]), ("a",), ("a", 1, 2), ["a", 1], [1, [2, [3, []]]], [True], [None], {"a": 1}, {"a": 1, "b": 2}, {"a": None},
    {None: 1}, {1: 1}, {("a", 1): 2}, "\n", "a\n", "\xe9", chr(37), NUMBER, Named("a"), Record([]),
]


class Held(unittest.TestCase):
    """What several of these tests ask."""

    def things(self, kind, rows):
        """These are things, with these rows."""
        for thing, row in rows:
            with self.subTest(thing=thing):
                self.assertIs(kind.has(thing), True)
                self.assertEqual(kind.write(thing), row)
                self.assertIs(type(kind.write(thing)), str)
                self.assertEqual(kind.write(thing=thing), row)

    def no_things(self, kind, things):
        """None of these is a thing."""
        for thing in things:
            with self.subTest(thing=thing):
                self.assertIs(kind.has(thing), False)
                told = refusal(self, NoThing, kind.write, thing)
                self.assertEqual(told.thing, thing)
                self.assertIs(type(told.thing), type(thing))

    def of_anything(self, kind, is_thing):
        """Of all these just those are things that are told so."""
        for thing in MORE_THINGS:
            with self.subTest(thing=thing):
                self.assertIs(kind.has(thing), bool(is_thing(thing)))
                if is_thing(thing):
                    kind.write(thing)
                else:
                    self.assertIs(type(refusal(self, NoThing, kind.write, thing).thing), type(thing))


class TestNumber(Held):
    def test_whole(self):
        kind = Number(Word(width=4, fill="0", side="inner"), least=-12, most=100, ahead="<", behind="kg>")
        self.things(kind, [(0, "<0000kg>"), (-12, "<-012kg>"), (100, "<0100kg>"), (-1, "<-001kg>")])
        self.no_things(kind, [-13, 101, 10 ** 59, -10 ** 59, (0, 1), (1, 1), None, True, False, "0", [], {}, 1.0])

    def test_without_end(self):
        great = 10 ** 59
        self.things(NUMBER, [(0, "0"), (great, str(great)), (-great, str(-great))])
        self.things(Number(WHOLE, least=5), [(5, "5"), (great, str(great))])
        self.no_things(Number(WHOLE, least=5), [4, -great])
        self.things(Number(WHOLE, most=-5), [(-5, "-5"), (-great, str(-great))])
        self.no_things(Number(WHOLE, most=-5), [-4, great])

    def test_one_number(self):
        self.things(Number(WHOLE, least=7, most=7), [(7, "7")])
        self.no_things(Number(WHOLE, least=7, most=7), [6, 8])

    def test_rest(self):
        kind = Number(WHOLE, least=-7, most=9, rest=(2, 5))
        held = [number for number in range(-20, 20) if kind.has(number)]
        self.assertEqual(held, [-3, 2, 7])
        self.no_things(kind, [-8, 12, 0, 5, -2])
        # Bounds need not be things themselves; there may be no thing at all.
        self.assertEqual([number for number in range(-9, 9) if Number(WHOLE, least=0, most=0, rest=(1, 2)).has(number)], [])
        for by in range(1, 13):
            for left in range(by):
                kind = Number(WHOLE, rest=(left, by))
                for number in range(-30, 31):
                    self.assertIs(kind.has(number), any(number == left + by * many for many in range(-40, 40)))

    def test_fixed(self):
        kind = Number(FIXED, least=(-1, 2), most=(5, 4))
        self.things(kind, [((0, 1), "0.00"), ((-1, 2), "-0.50"), ((5, 4), "1.25"), ((1, 100), "0.01"), ((1, 1), "1.00"),
                           ((-1, 20), "-0.05")])
        self.no_things(kind, [(-51, 100), (63, 50), (1, 3), (1, 200), (1, 8), (2, 4), (50, 100), (1, 0), (1, -2), (0, 2), 0, 1,
                              -1, None, True, (True, 1), (1, True), (1,), (1, 2, 3), [1, 2], "0.50", ("1", 2)])

    def test_fixed_of_other_bases(self):
        kind = Number(Word("fixed", base=6, places=1))
        self.things(kind, [((1, 2), "0.3"), ((1, 3), "0.2"), ((-5, 6), "-0.5"), ((7, 1), "11.0")])
        self.no_things(kind, [(1, 4), (1, 5), (1, 9), (1, 12), 7])
        self.things(Number(Word("fixed")), [((7, 1), "7"), ((-7, 1), "-7")])
        self.no_things(Number(Word("fixed")), [(1, 2), 7])

    def test_fixed_with_rest(self):
        # The numeral of 1/4 is 25: it leaves 1 by 12.
        kind = Number(FIXED, rest=(1, 12))
        self.things(kind, [((1, 4), "0.25"), ((1, 100), "0.01"), ((-11, 100), "-0.11")])
        self.no_things(kind, [(1, 2), (13, 1), (-1, 4), (-1, 100)])

    def test_mode_never_rounds(self):
        for mode in ("down", "up", "floor", "roof", "half", "even"):
            kind = Number(Word("fixed", places=1, mode=mode))
            self.things(kind, [((1, 2), "0.5"), ((-7, 10), "-0.7")])
            self.no_things(kind, [(1, 4), (-1, 3)])

    def test_drawn(self):
        draw = random.Random(81)
        for time in range(300):
            word = drawn_word(draw, kind=draw.choice(["whole", "fixed"]))
            unit = word.base ** word.places
            low = draw.randint(-200, 100)
            high = low + draw.randint(0, 200)
            by = draw.randint(1, 12)
            left = draw.randint(0, by - 1)
            bounds = [low, high] if word.kind == "whole" else [fraction_of(Fraction(one, unit)) for one in (low, high)]
            kind = Number(word, least=bounds[0], most=bounds[1], rest=(left, by), ahead="(", behind=" )")
            for time in range(20):
                numeral = draw.randint(low - 5, high + 5)
                number = Fraction(numeral, unit)
                thing = numeral if word.kind == "whole" else fraction_of(number)
                if low <= numeral <= high and (numeral - left) % by == 0:
                    self.things(kind, [(thing, f"({row_by(word, number if word.kind == 'fixed' else numeral)} )")])
                else:
                    self.no_things(kind, [thing])

    def test_of_anything(self):
        self.of_anything(NUMBER, lambda thing: type(thing) is int)
        self.of_anything(Number(Word("fixed", base=6, places=1)), lambda thing: thing in [(0, 1), (1, 2), (-1, 2)]
                         and type(thing) is tuple and type(thing[0]) is int and type(thing[1]) is int)


class TestOnlyAndChoice(Held):
    def test_only(self):
        self.things(Only(5, "five"), [(5, "five")])
        self.no_things(Only(5, "five"), [4, 6, -5, (5, 1), "five", None, [5]])
        self.things(Only((-1, 3), " "), [((-1, 3), " ")])
        self.no_things(Only((-1, 3), " "), [(1, 3), (-2, 6), (1, -3), [-1, 3], -1, (-1, 3, 1)])
        self.no_things(Only(1, "a"), [True, (1, 1), (True, 1), 1.0])
        self.no_things(Only(0, "a"), [False, None, (0, 1)])
        self.no_things(Only((1, 1), "a"), [1, True, (True, 1), (1, True)])
        self.of_anything(Only(1, "a"), lambda thing: thing == 1 and type(thing) is int)
        self.of_anything(Only((-1, 2), "a"), lambda thing: thing == (-1, 2))

    def test_the_first_that_has_it(self):
        kind = Choice([Only(0, "none"), Number(WHOLE, least=0, most=9), Only(5, "five"), Number(Word(base=16), most=20),
                       Only(100, "many"), Only(100, "lots")])
        self.things(kind, [(0, "none"), (5, "5"), (9, "9"), (10, "a"), (20, "14"), (-1, "-1"), (100, "many")])
        self.no_things(kind, [21, 99, 101, (5, 1), None, "none", True])
        turned = Choice([Only(5, "five"), Number(WHOLE, least=0, most=9), Only(0, "none")])
        self.things(turned, [(5, "five"), (0, "0")])

    def test_fractions(self):
        kind = Choice([Only((1, 2), "half"), Number(FIXED, least=(0, 1), rest=(0, 2)), Only((1, 100), "cent")])
        self.things(kind, [((1, 2), "half"), ((0, 1), "0.00"), ((1, 50), "0.02"), ((1, 100), "cent")])
        self.no_things(kind, [(3, 100), (-1, 50), (1, 3), 0, 1])
        thirds = Choice((Only((1, 3), "a third"), Only((2, 3), "two thirds")))
        self.things(thirds, [((1, 3), "a third"), ((2, 3), "two thirds")])
        self.no_things(thirds, [(1, 2), (1, 1), 1])

    def test_of_anything(self):
        kind = Choice([Number(WHOLE, least=0), Only(-7, "x")])
        self.of_anything(kind, lambda thing: type(thing) is int and (thing >= 0 or thing == -7))


class TestText(Held):
    def test_plain(self):
        self.things(Text("ab"), [("", ""), ("a", "a"), ("abba" * 100, "abba" * 100)])
        self.no_things(Text("ab"), ["c", "abc", "A", "a b", "\n", None, True, 0, ["a"], ("a",), {}])

    def test_least_and_most(self):
        kind = Text("ab", least=2, most=3)
        self.things(kind, [("ab", "ab"), ("bbb", "bbb")])
        self.no_things(kind, ["", "a", "abab"])
        self.things(Text("ab", least=1), [("a", "a"), ("a" * 500, "a" * 500)])
        self.things(Text("ab", most=0), [("", "")])
        self.no_things(Text("ab", most=0), ["a"])
        self.no_things(Text("ab", least=1), [""])

    def test_quote(self):
        kind = Text("'ab", quote="'", most=4)
        self.things(kind, [("", "''"), ("a", "'a'"), ("'", "''''"), ("a'b", "'a''b'"), ("''''", "'" * 10)])
        self.no_things(kind, ["abaab", "\""])
        self.things(Text("ab", quote="|"), [("ab", "|ab|"), ("", "||")])
        self.no_things(Text("ab", quote="|"), ["|"])
        self.things(Text(" a", quote=" "), [(" ", "    "), ("a", " a ")])

    def test_width_fill_and_side(self):
        for side, rows in [("left", ["*****", "a****", "ab***", "ababa", "ababab"]),
                           ("right", ["*****", "****a", "***ab", "ababa", "ababab"]),
                           ("middle", ["*****", "**a**", "*ab**", "ababa", "ababab"])]:
            kind = Text("ab", width=5, fill="*", side=side)
            self.things(kind, list(zip(["", "a", "ab", "ababa", "ababab"], rows)))
        self.things(Text("ab", width=6, side="middle", fill="0"), [("a", "00a000"), ("ab", "00ab00")])
        self.things(Text("ab", width=24), [("", " " * 24)])

    def test_quote_and_width(self):
        kind = Text("'a", quote="'", width=7, fill="'", side="middle")
        self.things(kind, [("a", "''" + "'a'" + "''"), ("'", "'" + "''''" + "''"), ("aaaaaa", "'aaaaaa'")])

    def test_all_signs(self):
        signs = "".join(chr(code) for code in range(32, 127) if code != 37)
        self.things(Text(signs), [(signs[::-1], signs[::-1])])
        self.no_things(Text(signs), ["a" + chr(37), "\n", "a\n", "\x7f", "\xe9"])

    def test_of_anything(self):
        self.of_anything(Text("abcnox"), lambda thing: type(thing) is str and set(thing) <= set("abcnox"))


class TestSizes(Held):
    def test_the_documents_own(self):
        kind = Sizes((24, 60, 60), ("d ", ":", ":"))
        self.things(kind, [(97507, "1d 03:05:07"), (0, "0d 00:00:00"), (59, "0d 00:00:59"), (60, "0d 00:01:00"),
                           (86399, "0d 23:59:59"), (86400, "1d 00:00:00"), (864000, "10d 00:00:00"),
                           (86400 * 10 ** 50, f"{10 ** 50}d 00:00:00")])
        self.no_things(kind, [-1, -10 ** 59, True, False, None, "0", (0, 1), [0], 1.0])

    def test_how_many_figures(self):
        for size, figures in [(2, 1), (9, 1), (10, 1), (11, 2), (99, 2), (100, 2), (101, 3), (999, 3), (1000, 3)]:
            kind = Sizes([size], ["-"])
            for number in (0, 1, size - 1, size, size + 1, 7 * size + 1, 10 ** 40):
                self.things(kind, [(number, f"{number // size}-{str(number % size).rjust(figures, '0')}")])

    def test_marks_of_figures(self):
        kind = Sizes([10, 10], ["0", "00"])
        self.things(kind, [(0, "000000"), (5, "000005"), (123, "102003"), (1234, "1203004")])

    def test_drawn(self):
        draw = random.Random(83)
        for time in range(200):
            sizes = [draw.choice([2, 9, 10, 11, 60, 100, 101, 1000]) for number in range(draw.randint(1, 5))]
            marks = [draw.choice([":", "0", "ab", " "]) for size in sizes]
            number = draw.randint(0, 10 ** draw.randint(1, 30))
            parts, rest = [], number
            for size in reversed(sizes):
                parts.insert(0, str(rest % size).rjust(len(str(size - 1)), "0"))
                rest //= size
            row = str(rest) + "".join(mark + part for mark, part in zip(marks, parts))
            self.things(Sizes(draw.choice([list, tuple])(sizes), marks), [(number, row)])

    def test_of_anything(self):
        self.of_anything(Sizes([24], [":"]), lambda thing: type(thing) is int and thing >= 0)


class TestRecord(Held):
    def test_no_pieces(self):
        self.things(Record([]), [({}, "")])
        self.no_things(Record([]), [{"a": 1}, [], (), None, "", 0])
        self.of_anything(Record([]), lambda thing: thing == {} and type(thing) is dict)

    def test_texts_and_fields(self):
        kind = Record(["<", ("name", Text("ab")), " = ", ("n", NUMBER), ">"])
        self.things(kind, [({"name": "ab", "n": -5}, "<ab = -5>"), ({"n": 0, "name": ""}, "< = 0>")])
        self.no_things(kind, [{"name": "ab"}, {"n": 1}, {"name": "ab", "n": 1, "m": 2}, {"name": "ab", "m": 1}, {},
                              {"name": "c", "n": 1}, {"name": "ab", "n": True}, {"name": 1, "n": "ab"}, [], None,
                              [("name", "ab"), ("n", 1)], {"name": "ab", "n": None}, {"name": "ab", 1: 1}])

    def test_texts_alone(self):
        self.things(Record(["a", "b", " "]), [({}, "ab ")])

    def test_widths_told_by_a_field(self):
        word = Word(width=9, fill="*", sign="plus")
        kind = Record([("n", Number(word, ahead="<", behind=">"), "w"), ":", ("w", WIDTH)])
        self.things(kind, [({"n": 5, "w": 0}, "<+5>:0"), ({"n": 5, "w": 4}, "<**+5>:4"), ({"n": -123, "w": 2}, "<-123>:2"),
                           ({"n": 0, "w": 24}, "<" + "*" * 22 + "+0>:24")])
        self.no_things(kind, [{"n": 5, "w": 25}, {"n": 5, "w": -1}, {"n": 5}, {"w": 5}, {"n": 5, "w": None},
                              {"n": (5, 1), "w": 5}])

    def test_widths_told_by_one_unwritten(self):
        kind = Record([("a", Number(FIXED), "w"), "|", ("b", NUMBER, "w")], unwritten=[("w", Number(WHOLE, least=2, most=6))])
        self.things(kind, [({"a": (1, 2), "b": 7, "w": 6}, "  0.50|     7"), ({"a": (1, 2), "b": 7, "w": 2}, "0.50| 7")])
        self.no_things(kind, [{"a": (1, 2), "b": 7}, {"a": (1, 2), "b": 7, "w": 1}, {"a": (1, 2), "b": 7, "w": 7},
                              {"a": (1, 2), "b": 7, "w": "6"}, {"a": (1, 3), "b": 7, "w": 6}])

    def test_the_width_of_none(self):
        kind = Record(["x", ("a", NUMBER)], unwritten=(("v", WIDTH), ("w", Number(WHOLE, least=3, most=3))))
        self.things(kind, [({"a": 1, "v": 0, "w": 3}, "x1"), ({"a": 1, "v": 24, "w": 3}, "x1")])
        self.no_things(kind, [{"a": 1}, {"a": 1, "v": 0}, {"a": 1, "v": 0, "w": 2}])

    def test_all_fields_of_a_word_but_the_width_stay(self):
        draw = random.Random(84)
        for time in range(200):
            word = drawn_word(draw, kind=draw.choice(["whole", "fixed"]))
            width = draw.randint(0, 24)
            numeral = draw.randint(-3000, 3000)
            number = numeral if word.kind == "whole" else Fraction(numeral, word.base ** word.places)
            wide = Word(**{**vars(word), "width": width})
            thing = {"n": numeral if word.kind == "whole" else fraction_of(number), "w": width}
            self.things(Record([("n", Number(word), "w")], unwritten=[("w", WIDTH)]), [(thing, row_by(wide, number))])

    def test_rest_and_bounds_of_a_wide_one(self):
        kind = Record([("n", Number(WHOLE, least=0, most=9, rest=(1, 2)), "w")], unwritten=[("w", WIDTH)])
        self.things(kind, [({"n": 9, "w": 3}, "  9")])
        self.no_things(kind, [{"n": 8, "w": 3}, {"n": 11, "w": 3}, {"n": -1, "w": 3}])

    def test_of_anything(self):
        self.of_anything(Record([("a", NUMBER)]), lambda thing: thing == {"a": 1})


class TestListing(Held):
    def test_plain(self):
        self.things(Listing(NUMBER, ", "), [([], ""), ([1], "1"), ([1, -2, 30], "1, -2, 30"), ([5] * 100, ", ".join("5" * 100))])
        self.no_things(Listing(NUMBER, ", "), [(1, 2), (), None, "1", {}, [None], [1, "2"], [1, [2]], [True], {1: 2}])

    def test_least_and_most(self):
        kind = Listing(Text("ab"), "b", least=1, most=2)
        self.things(kind, [([""], ""), (["a"], "a"), (["a", ""], "ab"), (["b", "b"], "bbb")])
        self.no_things(kind, [[], ["a", "a", "a"], ["c"], ["a", "c"]])
        self.things(Listing(NUMBER, "x", most=0), [([], "")])
        self.no_things(Listing(NUMBER, "x", most=0), [[1]])

    def test_within_one_another(self):
        kind = Listing(Listing(NUMBER, ","), ";")
        self.things(kind, [([[1, 2], [], [3]], "1,2;;3"), ([[]], ""), ([], "")])
        self.no_things(kind, [[1], [[1], 2], [[[1]]]])

    def test_of_anything(self):
        self.of_anything(Listing(NUMBER, ","), lambda thing: type(thing) is list and all(type(one) is int for one in thing))


class TestCases(Held):
    def test_plain(self):
        kind = Cases([("num", NUMBER), ("txt", Text("ab")), ("keep", Only(1, "one"))])
        self.things(kind, [(("num", 5), "5"), (("txt", "ab"), "ab"), (("txt", ""), ""), (("keep", 1), "one")])
        self.no_things(kind, [("num", "ab"), ("txt", 5), ("keep", 2), ("other", 5), ("num",), ("num", 5, 5), ["num", 5], 5, "ab",
                              None, {"num": 5}, (), (5, "num"), ("Num", 5), (None, 5), (("num",), 5), (["num"], 5)])

    def test_the_same_kind_twice(self):
        kind = Cases((("a", NUMBER), ("b", NUMBER)))
        self.things(kind, [(("a", 1), "1"), (("b", 1), "1")])

    def test_of_anything(self):
        self.of_anything(Cases([("a", NUMBER)]), lambda thing: thing == ("a", 1))


class TestPadded(Held):
    def test_each_side(self):
        for side, row in [("left", "1,2***"), ("right", "***1,2"), ("middle", "*1,2**")]:
            self.things(Padded(Listing(NUMBER, ","), 6, fill="*", side=side), [([1, 2], row), ([1, 2, 3, 4], "1,2,3,4")])
        self.things(Padded(NUMBER, 3), [(5, "  5"), (1000, "1000")])
        self.things(Padded(NUMBER, 0, fill="*"), [(5, "5")])
        self.things(Padded(Only(1, "one"), 24, side="left"), [(1, "one" + " " * 21)])

    def test_no_things(self):
        self.no_things(Padded(Only(1, "one"), 24), [2, None, "one", [1], True, (1, 1)])
        self.of_anything(Padded(NUMBER, 5), lambda thing: type(thing) is int)


class TestNamed(Held):
    def test_by_itself(self):
        self.no_things(Named("a"), [None, 0, True, "a", [], ("a", 1), {}])
        self.of_anything(Named("a"), lambda thing: False)

    def test_within_others(self):
        kind = Listing(Named("a"), ",")
        self.things(kind, [([], "")])
        self.no_things(kind, [[1], ["a"]])
        self.things(Cases([("a", Named("b")), ("c", NUMBER)]), [(("c", 1), "1")])
        self.no_things(Cases([("a", Named("b")), ("c", NUMBER)]), [("a", 1), ("a", "b")])
        self.no_things(Record([("a", Named("b"))]), [{}, {"a": 1}])
        self.no_things(Padded(Named("a"), 3), [1, ""])


class TestThing(unittest.TestCase):
    def test_the_whole_thing_is_told(self):
        kind = Listing(Record([("a", Cases([("b", NUMBER)]))]), ";")
        thing = [{"a": ("b", 1)}, {"a": ("b", "x")}]
        self.assertEqual(refusal(self, NoThing, kind.write, thing).thing, thing)

    def test_nothing_handed_in_is_changed(self):
        kind = Listing(Record([("a", Listing(NUMBER, ","))]), ";")
        thing = [{"a": [1, 2]}, {"a": []}]
        self.assertEqual(kind.write(thing), "1,2;")
        self.assertEqual(thing, [{"a": [1, 2]}, {"a": []}])

    def test_the_refusal_keeps_a_copy(self):
        thing = [{"a": [1]}, None]
        told = refusal(self, NoThing, Listing(NUMBER, ",").write, thing)
        thing[0]["a"].append(2)
        thing.clear()
        self.assertEqual(told.thing, [{"a": [1]}, None])

    def test_deep_things(self):
        thing = 1
        kind = NUMBER
        for depth in range(30):
            thing = [thing]
        self.assertFalse(Listing(kind, ",").has(thing))
        for depth, between in enumerate(",;:|/-"):
            kind = Listing(kind, between)
        self.assertEqual(kind.write([[[[[[1, 2]], [[3]]]]]]), "1,2:3")


if __name__ == "__main__":
    unittest.main()
