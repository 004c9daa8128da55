"""[90] fault, [91] read and read_one, [93] turned."""

import random
import unittest

from formatwords.errors import NoRow, NoThing, Unclear
from formatwords.kinds import Cases, Choice, Listing, Named, Number, Only, Padded, Record, Sizes, Text
from formatwords.reading import fault, read, read_one, turned
from formatwords.words import Word
from tests.helper import SIDES, WIDTH, drawn_kind, number_of_word, refusal, short_things, signature_of, texts_of

NUMBER = Number(Word())
GREAT = 10 ** 59 + 98765432109876543210
ALL_SIGNS = "".join(chr(code) for code in range(32, 127) if code != 37)


def far_by(rows, text):
    """How many signs the longest beginning of a text has with which one of these rows begins."""
    return max(at for at in range(len(text) + 1) if any(row.startswith(text[:at]) for row in rows)) if rows else 0


class TestInterface(unittest.TestCase):
    def test_arguments(self):
        for action in (fault, read, read_one):
            self.assertEqual(signature_of(action), [("kind", False, "none"), ("text", False, "none")])
        self.assertEqual(signature_of(turned), [(name, False, "none") for name in ("kind", "other", "text")])
        self.assertEqual(turned(text="5", other=Number(Word(width=3)), kind=NUMBER), "  5")
        self.assertEqual(fault(text="x", kind=NUMBER), 0)
        self.assertEqual(read(text="7", kind=NUMBER), [7])
        self.assertEqual(read_one(text="7", kind=NUMBER), 7)


class TestFault(unittest.TestCase):
    def at(self, kind, faults):
        for text, told in faults.items():
            with self.subTest(text=text):
                self.assertEqual(fault(kind, text), told)

    def test_at_each_place(self):
        kind = Record(["<", ("n", Number(Word(group=(",", 3)), least=0)), " kg>"])
        self.at(kind, {"<1,234 kg>": None, "": 0, "x": 0, "<": 1, "<x": 1, "<1": 2, "<1x": 2, "<01": 2, "<1,": 3,
                       "<1,23 kg>": 5, "<1234": 4, "<1,2345": 6, "<1,234": 6, "<1,234 g>": 7, "<1,234 kg": 9,
                       "<1,234 kg>>": 10, "<1,234 kg> ": 10})

    def test_more_must_come(self):
        self.at(Only(5, "five"), {"": 0, "f": 1, "fi": 2, "fiv": 3, "five": None, "fives": 4, "fix": 2})
        self.at(Text("a", least=3), {"": 0, "a": 1, "aa": 2, "aaa": None, "aaaa": None, "ab": 1})
        self.at(Text("a", least=10 ** 50), {"": 0, "a" * 400: 400, "a" * 399 + "b": 399})

    def test_where_there_is_no_row(self):
        for kind in (Named("a"), Record([("a", Named("a"))]), Number(Word(), least=1, most=1, rest=(0, 2)),
                     Listing(Named("a"), ",", least=1), Padded(Named("a"), 4), Cases([("a", Named("b"))])):
            self.at(kind, {"": 0, "a": 0, "1": 0, "    ": 0})
        self.at(Listing(Named("a"), ","), {"": None, "a": 0, ",": 0})

    def test_numbers(self):
        self.at(Number(Word(), least=-12, most=105), {"-13": 2, "-12": None, "106": 2, "105": None, "0": None, "00": 1,
                                                      "-0": 1, "-": 1, "1055": 3, "99": None, "991": 2, "+1": 0})
        kind = Number(Word(), least=-GREAT, most=GREAT)
        self.at(kind, {str(GREAT): None, str(GREAT + 1): 59, str(-GREAT - 1): 60, str(GREAT) + "0": 60,
                       "9" + str(GREAT)[1:]: 59, "9" * 59: None})
        self.at(Number(Word(width=6, fill="*")), {"*****1": None, "****1": 5, "*****": 5, "******": 5, "***-1": 5,
                                                  "***1*": 4, "1234567": None, "*123456": 6})

    def test_held_against_all_rows(self):
        draw = random.Random(11)
        for time in range(150):
            kind = drawn_kind(draw, 1)
            rows = [row for row, thing in short_things(kind, 4)]
            for text in draw.sample(rows, min(8, len(rows))):
                self.assertIsNone(fault(kind, text))
                for bent in (text[:-1], text + draw.choice("0a,- "), draw.choice("01a-") + text[1:]):
                    told = fault(kind, bent)
                    if len(bent) <= 4:
                        self.assertEqual(told is None, bent in rows)
                    if told is not None:
                        self.assertGreaterEqual(told, far_by(rows, bent))

    def test_held_against_all_rows_of_kinds_that_end(self):
        kinds = [Choice([Only(1, "one"), Only(2, "oh"), Number(Word(), least=7, most=21, ahead="o")]),
                 Text("ab", least=1, most=3, quote="'"), Cases([("a", Only(1, "ab")), ("b", Text("a", least=1, most=4))]),
                 Record([("a", Text("ab", most=1)), "a", ("b", Text("ab", least=1, most=2))]),
                 Listing(Text("a", most=1), "b", least=1, most=3), Padded(Text("ab", most=2), 3, fill="b", side="middle"),
                 Record([("n", Number(Word(), least=0, most=12), "w")], unwritten=[("w", Number(Word(), least=1, most=3))])]
        for kind in kinds:
            rows = [row for row, thing in short_things(kind, 6)]
            for text in texts_of("ab'", 4) + texts_of("o1n", 3) + texts_of(" 12", 3):
                self.assertEqual(fault(kind, text), None if text in rows else far_by(rows, text), text)


class TestRead(unittest.TestCase):
    def things(self, kind, told):
        """Of each text just these things are read."""
        for text, things in told.items():
            with self.subTest(text=text):
                found = read(kind, text)
                self.assertIs(type(found), list)
                self.assertEqual(len(found), min(2, len(things)))
                for thing in found:
                    self.assertIn(thing, things)
                    self.assertTrue(kind.has(thing))
                    self.assertEqual(kind.write(thing), text)
                if len(found) == 2:
                    self.assertNotEqual(found[0], found[1])

    def test_numbers(self):
        self.things(NUMBER, {"5": [5], "-17": [-17], "": [], "x": [], "05": [], "+5": [], str(GREAT): [GREAT]})
        self.things(Number(Word("fixed", places=2)), {"0.50": [(1, 2)], "-12.25": [(-49, 4)], "0.5": [], "3.00": [(3, 1)]})
        self.things(Number(Word(width=4, fill="0", side="left")), {"1000": [1, 10, 100, 1000], "1100": [11, 110, 1100],
                                                                   "0000": [0], "-100": [-1, -10, -100], "1234": [1234]})
        self.things(Number(Word(width=3, fill="1"), least=0, rest=(1, 2)), {"111": [1, 11, 111], "113": [3, 13, 113],
                                                                            "112": []})

    def test_choices(self):
        kind = Choice([Only(1, "2"), Number(Word(), least=0, most=3), Only(2, "two"), Only(9, "0")])
        self.things(kind, {"2": [1, 2], "1": [], "0": [0, 9], "two": [], "3": [3], "4": []})
        self.things(Choice([Only((1, 3), "x"), Only((1, 7), "x"), Only((2, 3), "x")]),
                    {"x": [(1, 3), (1, 7), (2, 3)], "y": []})

    def test_texts(self):
        self.things(Text("ab", width=3, fill="a"), {"aaa": ["", "a", "aa", "aaa"], "baa": ["b", "ba", "baa"], "b": [],
                                                    "abba": ["abba"], "aba": ["ab", "aba"]})
        self.things(Text("'a", quote="'"), {"''": [""], "'a'": ["a"], "''''": ["'"], "'''": [], "'a''a'": ["a'a"]})
        self.things(Text(ALL_SIGNS), {ALL_SIGNS * 4: [ALL_SIGNS * 4]})

    def test_sizes(self):
        kind = Sizes((24, 60, 60), ("d ", ":", ":"))
        self.things(kind, {"1d 03:05:07": [97507], "1d 24:05:07": [], "": [], "1d 03:05:7": [], "01d 03:05:07": [],
                           "0d 00:00:00": [0], "x1d 03:05:07": [], "1d 03:0x:07": []})
        self.things(Sizes((60,), ("1",)), {"1": [], "0100": [0], "11159": [719], "5107": [307]})

    def test_records(self):
        kind = Record([("a", Text("ab")), "b", ("c", Listing(NUMBER, ","))])
        self.things(kind, {"abb1,2": [{"a": "ab", "c": [1, 2]}], "bbb": [{"a": "bb", "c": []}], "b": [{"a": "", "c": []}],
                           "a1": [], "": []})
        self.things(Record([]), {"": [{}], "a": []})
        self.things(Record(["a", "b"]), {"ab": [{}], "a": []})
        self.things(Record([("a", NUMBER), ("b", NUMBER)]),
                    {"123": [{"a": 1, "b": 23}, {"a": 12, "b": 3}], "10": [{"a": 1, "b": 0}], "1": [],
                     "1-2": [{"a": 1, "b": -2}]})

    def test_records_with_widths(self):
        wide = ("n", Number(Word(fill="*")), "w")
        self.things(Record([wide], unwritten=[("w", WIDTH)]),
                    {"**5": [{"n": 5, "w": 3}], "5": [{"n": 5, "w": 0}, {"n": 5, "w": 1}], "*": [],
                     "123": [{"n": 123, "w": width} for width in range(4)]})
        for pieces in ([wide, "|", ("w", WIDTH)], [("w", WIDTH), "|", wide]):
            kind = Record(pieces)
            for width in (0, 3, 24):
                thing = {"n": -7, "w": width}
                self.things(kind, {kind.write(thing): [thing]})
        kind = Record([("n", Number(Word(side="left", fill="0")), "w"), ("m", NUMBER, "v")],
                      unwritten=[("w", Number(Word(), least=2, most=3)), ("v", Number(Word(), least=2, most=2))])
        self.things(kind, {"10 1": [{"n": n, "m": 1, "w": 2, "v": 2} for n in (1, 10)],
                           "101": [], "10-1": [{"n": n, "m": -1, "w": 2, "v": 2} for n in (1, 10)],
                           "1234-1": [{"n": 1234, "m": -1, "w": w, "v": 2} for w in (2, 3)]})

    def test_records_with_two_widths(self):
        one, two = ("a", Number(Word(fill="*")), "v"), ("b", Number(Word(fill="0", side="left")), "w")
        parts = [one, two, ("c", Number(Word(side="left")), "v"), ("d", Number(Word()), "w"), ("v", WIDTH), ("w", WIDTH)]
        draw = random.Random(13)
        for time in range(6):
            draw.shuffle(parts)
            pieces = [piece for part in parts for piece in (part, "|")]
            pieces, unwritten = draw.choice([(pieces, []), ([piece for piece in pieces if piece[0] != "v"], [("v", WIDTH)])])
            kind = Record(pieces, unwritten=unwritten)
            for v, w in ((0, 0), (3, 5), (24, 2), (5, 24)):
                thing = {"a": -7, "b": 12, "c": 345, "d": 6, "v": v, "w": w}
                found = read(kind, kind.write(thing))
                self.assertTrue(thing in found or len(found) == 2)
                for told in found:
                    self.assertEqual(kind.write(told), kind.write(thing))
                    self.assertEqual([told["w"], told["d"], told["a"]], [w, 6, -7])

    def test_the_width_of_none(self):
        kind = Record(["x"], unwritten=[("v", Number(Word(), least=3, most=4)), ("w", Number(Word(), least=1, most=1))])
        self.things(kind, {"x": [{"v": 3, "w": 1}, {"v": 4, "w": 1}], "": []})
        self.things(Record(["x"], unwritten=[("v", Number(Word(), least=3, most=3, rest=(0, 2)))]), {"x": []})

    def test_lists(self):
        self.things(Listing(NUMBER, ","), {"": [[]], "1": [[1]], "1,2": [[1, 2]], "1,,2": [], ",": []})
        self.things(Listing(Text("a"), "a"), {"aaa": [["aaa"], ["aa", ""], ["a", "a"], ["", "aa"], ["", "", "a"],
                                                      ["", "a", ""], ["a", "", ""], ["", "", "", ""]],
                                              "": [[], [""]], "a": [["a"], ["", ""]]})
        self.things(Listing(Text("ab"), ",", least=2, most=3), {"a": [], "a,b": [["a", "b"]], "a,b,": [["a", "b", ""]],
                                                                "a,b,,": []})
        self.things(Listing(Number(Word(group=(",", 3))), ","), {"1,234": [[1, 234], [1234]], "1,23": [[1, 23]]})
        self.things(Listing(Cases([("a", NUMBER), ("b", Text("-x"))]), ";", least=1),
                    {"1;x": [[("a", 1), ("b", "x")]], "-;2": [[("b", "-"), ("a", 2)]], "": [[("b", "")]]})

    def test_cases_and_padded(self):
        kind = Cases([("num", NUMBER), ("txt", Text("123")), ("one", Only(1, "1"))])
        self.things(kind, {"1": [("num", 1), ("txt", "1"), ("one", 1)], "2": [("num", 2), ("txt", "2")],
                           "-2": [("num", -2)], "": [("txt", "")], "x": []})
        for side in SIDES:
            self.things(Padded(Listing(NUMBER, ","), 6, fill="*", side=side),
                        {Padded(Listing(NUMBER, ","), 6, fill="*", side=side).write([1, 2]): [[1, 2]], "1,2": [],
                         "1,2,3,4": [[1, 2, 3, 4]], "******": [[]]})
        self.things(Padded(NUMBER, 3, fill="0", side="left"), {"100": [1, 10, 100], "10": [], "000": [0], "1000": [1000]})

    def test_signs_that_no_text_has(self):
        for text in ("1,\n2", chr(37), "\xe9", "1\n"):
            self.things(Listing(NUMBER, ","), {text: []})
            self.things(Record([("a", NUMBER), ("b", Text("ab"))]), {text: []})

    def test_named(self):
        self.things(Named("a"), {"": [], "a": []})
        self.things(Cases([("a", Named("a")), ("b", NUMBER)]), {"5": [("b", 5)], "": []})
        self.things(Listing(Named("a"), ","), {"": [[]], ",": []})

    def test_drawn(self):
        draw = random.Random(12)
        for time in range(120):
            kind = drawn_kind(draw, draw.choice([1, 2]))
            rows = {}
            for row, thing in short_things(kind, 3):
                rows.setdefault(row, []).append(thing)
            chosen = draw.sample(sorted(rows), min(12, len(rows)))
            self.things(kind, {row: rows[row] for row in chosen})
            bent = [draw.choice("01a,- ") + row[1:] for row in chosen if row]
            self.things(kind, {row: rows.get(row, []) for row in bent})

    def test_long_texts(self):
        numbers = [(-7) ** (number % 9) for number in range(100)]
        kind = Listing(NUMBER, ", ", least=1)
        text = kind.write(numbers)
        self.assertLessEqual(len(text), 700)
        self.assertEqual(read(kind, text), [numbers])
        kind = Listing(Text("ab"), "ab")
        one, two = read(kind, "ab" * 200)
        self.assertNotEqual(one, two)
        self.assertEqual([kind.write(one), kind.write(two)], ["ab" * 200] * 2)
        kind = Record([("a", Text(ALL_SIGNS)), ("b", Text(ALL_SIGNS))])
        self.assertEqual(len(read(kind, "x" * 400)), 2)

    def test_great_numbers(self):
        word = Word("fixed", places=12, group=("'", 3), width=24, fill="0", side="inner")
        kind = Number(word, least=number_of_word(word, -GREAT), most=number_of_word(word, GREAT))
        for numeral in (GREAT, -GREAT, 0, 17, -10 ** 30):
            number = number_of_word(word, numeral)
            self.assertEqual(read_one(kind, kind.write(number)), number)

    def test_kinds_of_things(self):
        kind = Record([("a", Listing(Cases([("n", Number(Word("fixed", places=1)))]), ","))])
        thing = read_one(kind, "0.5,2.0")
        self.assertEqual(thing, {"a": [("n", (1, 2)), ("n", (2, 1))]})
        self.assertEqual([type(thing), type(thing["a"]), type(thing["a"][0]), type(thing["a"][0][1])],
                         [dict, list, tuple, tuple])

    def test_what_is_told_is_the_askers_own(self):
        kind = Record([("a", Listing(Record([("b", Listing(Text("x"), ","))]), ";", least=1)), ("c", Text("x"))])
        text = "x,x;xx;x"
        first = read(kind, text)
        again = read(kind, text)
        self.assertEqual(first, again)
        untouched = read(kind, text)
        first[0]["a"][0]["b"].append("y")
        first[0]["a"].clear()
        first[0]["d"] = 1
        self.assertEqual(first[1], untouched[1])
        first.clear()
        self.assertEqual(read(kind, text), untouched)
        self.assertEqual(again, untouched)


class TestReadOne(unittest.TestCase):
    def test_one(self):
        self.assertEqual(read_one(NUMBER, "-12"), -12)
        self.assertEqual(read_one(Listing(NUMBER, ","), ""), [])

    def test_no_row(self):
        for text, at in {"": 0, "x": 0, "1x": 1, "-": 1, "007": 1}.items():
            self.assertEqual(refusal(self, NoRow, read_one, NUMBER, text).at, at)
        self.assertEqual(refusal(self, NoRow, read_one, Named("a"), "abc").at, 0)
        self.assertEqual(refusal(self, NoRow, read_one, Text("a", least=5), "aaa").at, 3)

    def test_unclear(self):
        for kind, text in [(Listing(Text("a"), ","), ""), (Cases([("a", NUMBER), ("b", NUMBER)]), "12"),
                           (Number(Word(width=3, fill="0", side="left")), "100")]:
            self.assertEqual(refusal(self, Unclear, read_one, kind, text).text, text)


class TestTurned(unittest.TestCase):
    def test_turned(self):
        kind = Record([("a", NUMBER), "/", ("b", NUMBER)])
        other = Record([("b", Number(Word(width=3))), " ", ("a", Number(Word(sign="plus")))])
        self.assertEqual(turned(kind, other, "5/-7"), " -7 +5")
        self.assertEqual(turned(other, kind, " -7 +5"), "5/-7")
        self.assertEqual(turned(NUMBER, Sizes((60,), (":",)), "75"), "1:15")

    def test_refused_as_read_one_first(self):
        none = Named("a")
        self.assertEqual(refusal(self, NoRow, turned, NUMBER, none, "5x").at, 1)
        twice = Cases([("a", NUMBER), ("b", NUMBER)])
        self.assertEqual(refusal(self, Unclear, turned, twice, none, "5").text, "5")

    def test_then_no_thing(self):
        self.assertEqual(refusal(self, NoThing, turned, NUMBER, Sizes((60,), (":",)), "-75").thing, -75)
        lists = Listing(NUMBER, ",")
        told = refusal(self, NoThing, turned, lists, NUMBER, "1,2").thing
        self.assertEqual(told, [1, 2])


if __name__ == "__main__":
    unittest.main()
