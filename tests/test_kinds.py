"""[80] to [85], [100]: what kinds are made of, and when two are equal; [2] where it speaks of them."""

import random
import unittest

from formatwords.errors import NoKind
from formatwords.kinds import Cases, Choice, Kind, Listing, Named, Number, Only, Padded, Record, Sizes, Text
from formatwords.words import Word
from tests.helper import THINGS, refusal, signature_of

WHOLE = Word()
FIXED = Word("fixed", places=2)
TENTHS = Word("fixed", places=1)
POWER = Word("power", places=2)
NUMBER = Number(WHOLE)
WIDTH = Number(WHOLE, least=0, most=24)
ONLY = Only(5, "five")
NONE = "none"
SIGNS = "".join(chr(code) for code in range(32, 127) if code != 37)

# For each class its arguments in the interface's order: (name, by name alone, default).
MADE = {
    Number: [("word", False, NONE), ("least", True, None), ("most", True, None), ("rest", True, None),
             ("ahead", True, ""), ("behind", True, "")],
    Only: [("thing", False, NONE), ("row", False, NONE)],
    Choice: [("kinds", False, NONE)],
    Text: [("signs", False, NONE), ("least", True, 0), ("most", True, None), ("quote", True, None), ("width", True, 0),
           ("fill", True, " "), ("side", True, "left")],
    Sizes: [("sizes", False, NONE), ("marks", False, NONE)],
    Record: [("pieces", False, NONE), ("unwritten", True, ())],
    Listing: [("kind", False, NONE), ("between", False, NONE), ("least", True, 0), ("most", True, None)],
    Cases: [("cases", False, NONE)],
    Padded: [("kind", False, NONE), ("width", False, NONE), ("fill", True, " "), ("side", True, "right")],
    Named: [("name", False, NONE)],
}
# One way to make each with no argument by default.
RIGHT = {
    Number: {"word": WHOLE, "least": -5, "most": 90, "rest": (1, 3), "ahead": "<", "behind": "> "},
    Only: {"thing": (1, 3), "row": "a third"},
    Choice: {"kinds": [ONLY, NUMBER]},
    Text: {"signs": "abc", "least": 1, "most": 5, "quote": "'", "width": 9, "fill": "*", "side": "middle"},
    Sizes: {"sizes": (24, 60), "marks": ("d ", ":")},
    Record: {"pieces": ["(", ("a", NUMBER), ("b", NUMBER, "c"), ")"], "unwritten": [("c", WIDTH)]},
    Listing: {"kind": NUMBER, "between": ", ", "least": 1, "most": 4},
    Cases: {"cases": [("a", NUMBER), ("b", ONLY)]},
    Padded: {"kind": NUMBER, "width": 9, "fill": "*", "side": "left"},
    Named: {"name": "other"},
}
ALL = [made(**RIGHT[made]) for made in RIGHT]
KINDS = ALL + [Choice([Only((1, 2), "half"), Number(FIXED)]), Record([]), Text(" "), Text("ab", quote="a")]

COUNTS = [-1, -10 ** 59, True, False, None, "1", [1], (1,), {}]
FILLINGS = {
    "width": [-1, 25, 10 ** 59, True, False, None, "5", [5], (5,), {}],
    "fill": ["", "  ", "{", "}", chr(37), "\n", "\x7f", "\xe9", 0, None, True, [" "], (" ",)],
    "side": ["inner", "", "Left", "<", 0, None, True, ["left"], ("left",)],
}
TEXTLESS = [None, True, False, 0, 7, [], ["a"], (), ("a",), {}, "a\n", "\t", chr(37), "\xe9", "\x7f", NUMBER]
NAMELESS = ["", "A", "aA", "ninelette", "a1", "a b", "a-b", "a ", "_a", "\xe9", None, True, 0, ["a"], ("a",), {}]
SEQUENCELESS = [None, True, 0, "", "ab", {}, {"a": 1}, NUMBER, WHOLE]


def pairs_wrong():
    """Tuples that are no (name, kind)."""
    wrong = [("a", kind) for kind in [None, True, 1, "a", [], (), {}, WHOLE, Kind]]
    wrong += [(name, NUMBER) for name in NAMELESS]
    return wrong + [("a",), (), ["a", NUMBER], (NUMBER, "a"), ("a", NUMBER, "b", "c"), None, True, 0, NUMBER, {"a": NUMBER}]


WRONG = {
    (Number, "word"): [POWER, None, True, 0, "", "w", [WHOLE], (WHOLE,), {}, NUMBER],
    (Number, "least"): [True, False, "0", (1, 1), (-5, 1), [1], {}],
    (Number, "most"): [-6, True, False, "0", (90, 1), [90], {}],
    (Number, "rest"): [(3, 3), (-1, 3), (0, 0), (0, 13), (12, 13), (0, -1), (0, True), (False, 3), (0,), (0, 3, 0), [1, 3],
                       (None, 3), (0, None), ("0", 3), 3, True, "", {}, ()],
    (Number, "ahead"): TEXTLESS,
    (Number, "behind"): TEXTLESS,
    (Only, "thing"): [None, True, False, "1", "", [1], [1, 2], {}, (), (1,), (1, 2, 3), (2, 4), (1, 0), (1, -2), (0, 2),
                      (True, 2), (1, True), (None, 1), ("1", 2), ((1, 2), 1), NUMBER],
    (Only, "row"): [""] + TEXTLESS,
    (Choice, "kinds"): SEQUENCELESS + [
        [], (), [None], [1], ["a"], [ONLY, None], [[ONLY]], [(ONLY,)], [Text("a")], [NUMBER, Text("a")], [Named("a")],
        [Choice([ONLY])], [Sizes([2], ["a"])], [Padded(NUMBER, 3)], [WHOLE], [NUMBER, Number(FIXED)],
        [Number(FIXED), NUMBER], [NUMBER, Only((1, 2), "a")], [NUMBER, Only((1, 1), "a")], [Only((1, 1), "a"), NUMBER],
        [Number(FIXED), Only(1, "a")], [Only(1, "a"), Number(FIXED)], [Number(FIXED), Number(TENTHS)],
        [Number(FIXED), Number(Word("fixed", places=2, base=2))], [Number(FIXED), Only((1, 3), "a")],
        [NUMBER, Number(Word("fixed"))], [Number(Word("fixed")), NUMBER], [Number(Word("fixed")), Only(1, "a")],
        [Number(FIXED), Only((1, 200), "a")], [Only((1, 8), "a"), Number(FIXED)], [Only(1, "a"), Only((1, 1), "b")],
        [Only((1, 2), "a"), Only((1, 3), "b"), Only(0, "c")], [Number(FIXED), Only((1, 4), "a"), Number(TENTHS)],
    ],
    (Text, "signs"): ["", "ba", "aa", "aba", "abb"] + TEXTLESS,
    (Text, "least"): COUNTS,
    (Text, "most"): [0, -1, True, False, "5", [5], {}],
    (Text, "quote"): ["", "''", True, False, 0, [], ["'"], ("'",), {}, chr(37), "\n", "\xe9"],
    (Sizes, "sizes"): SEQUENCELESS + [
        [], (), [1], [0], [-5], [1001], (1,), (24, 1), (24, 1001), (24, None), (24, True), (24, "60"), (24, (60,)), [[24, 60]],
    ],
    (Sizes, "marks"): SEQUENCELESS + [
        [], (), ("a",), ("a", "b", "c"), ("a", ""), ("", "a"), ("a", None), ("a", 1), ("a", ["b"]), ("a", "\n"), ("a", chr(37)),
        (True, "a"),
    ],
    (Listing, "kind"): [None, True, 0, "", "a", [NUMBER], (NUMBER,), {}, WHOLE, Kind],
    (Listing, "between"): [""] + TEXTLESS,
    (Listing, "least"): COUNTS,
    (Listing, "most"): [0, -1, True, False, "5", [5], {}],
    (Cases, "cases"): SEQUENCELESS + [[], ()] + [[("b", ONLY), wrong] for wrong in pairs_wrong() + [("b", NUMBER)]],
    (Padded, "kind"): [None, True, 0, "", "a", [NUMBER], (NUMBER,), {}, WHOLE, Kind],
    (Named, "name"): ["keep", "apart"] + NAMELESS,
}
for filled in (Text, Padded):
    for field in FILLINGS:
        WRONG[(filled, field)] = FILLINGS[field]
# Of a Record: wrong pieces beside an unwritten c that is right; then wrong unwritten ones beside such pieces.
LATE = ("b", NUMBER, "c")
WRONG[(Record, "pieces")] = SEQUENCELESS + [[wrong] for wrong in pairs_wrong()] + [
    [""], ["a\n"], [chr(37)], [LATE, ""], [("a", NUMBER), ("a", NUMBER)], [("a", NUMBER), ("a", ONLY)],
    [("b", NUMBER), LATE], [("a", Text("a"), "c")], [("a", ONLY, "c")], [("a", Choice([NUMBER]), "c")],
    [("a", Padded(NUMBER, 4), "c")], [("a", None, "c")], [("a", NUMBER, "C")], [("a", NUMBER, None)],
    [("A", NUMBER, "c")], [("", NUMBER, "c")], [(None, NUMBER, "c")], [("ninelette", NUMBER, "c")],
    [("a", NUMBER, "d")], [("a", NUMBER, "a")], [("a", NUMBER, ["c"])], [["a", NUMBER, "c"]], [LATE, ("d", NUMBER, "b")],
    [("d", Number(WHOLE)), ("a", NUMBER, "d")], [("d", Number(WHOLE, least=0)), ("a", NUMBER, "d")],
    [("d", Number(WHOLE, most=24)), ("a", NUMBER, "d")], [("d", Number(WHOLE, least=-1, most=24)), ("a", NUMBER, "d")],
    [("d", Number(WHOLE, least=0, most=25)), ("a", NUMBER, "d")], [("d", Text("a")), ("a", NUMBER, "d")],
    [("d", Number(FIXED, least=(0, 1), most=(24, 1))), ("a", NUMBER, "d")], [("d", ONLY), ("a", NUMBER, "d")],
    [("d", Choice([WIDTH])), ("a", NUMBER, "d")], [("d", Padded(WIDTH, 3)), ("a", NUMBER, "d")],
    [("d", Named("w")), ("a", NUMBER, "d")], [("d", Record([("e", WIDTH)])), ("a", NUMBER, "e")],
]
WRONG[(Record, "unwritten")] = [
    [("c", WIDTH), wrong] for wrong in pairs_wrong() + [
        "text", ("c", WIDTH), ("a", WIDTH), ("b", WIDTH), ("d", Text("a")), ("d", ONLY), ("d", Number(WHOLE)),
        ("d", Number(WHOLE, least=0)), ("d", Number(WHOLE, most=24)), ("d", Number(WHOLE, least=-1, most=24)),
        ("d", Number(WHOLE, least=0, most=25)), ("d", Number(FIXED, least=(0, 1), most=(24, 1))), ("d", Named("w")),
        ("d", Choice([WIDTH])), ("d", WIDTH, "c"),
    ]
]


class TestMade(unittest.TestCase):
    def test_arguments(self):
        for made in MADE:
            self.assertEqual(signature_of(made), MADE[made], made)

    def test_each_class_has_its_own_methods(self):
        for made in MADE:
            self.assertEqual(made.__bases__, (Kind,))
            for name in ("__init__", "has", "write", "__eq__"):
                self.assertIn(name, vars(made), made)
            self.assertEqual(signature_of(made.has), [("self", False, NONE), ("thing", False, NONE)])
            self.assertEqual(signature_of(made.write), [("self", False, NONE), ("thing", False, NONE)])

    def test_attributes(self):
        for made in RIGHT:
            kind = made(**RIGHT[made])
            for name, value in RIGHT[made].items():
                told = getattr(kind, name)
                self.assertEqual(tuple(told) if isinstance(value, (list, tuple)) else told,
                                 tuple(value) if isinstance(value, (list, tuple)) else value)

    def test_defaults(self):
        self.assertEqual(Number(WHOLE), Number(WHOLE, least=None, most=None, rest=None, ahead="", behind=""))
        self.assertEqual(Text("ab"), Text("ab", least=0, most=None, quote=None, width=0, fill=" ", side="left"))
        self.assertEqual(Record([]), Record([], unwritten=()))
        self.assertEqual(Listing(ONLY, "a"), Listing(ONLY, "a", least=0, most=None))
        self.assertEqual(Padded(ONLY, 3), Padded(ONLY, 3, fill=" ", side="right"))

    def test_by_places_and_by_names(self):
        for made in RIGHT:
            named = dict(RIGHT[made])
            places = [named.pop(name) for name, alone, default in MADE[made] if not alone]
            self.assertEqual(made(*places, **named), made(**RIGHT[made]))
            if named:
                self.assertRaises(TypeError, made, *places, *named.values())

    def test_at_their_bounds(self):
        great = 10 ** 59
        for make in [
            lambda: Number(WHOLE, least=0, most=0), lambda: Number(WHOLE, least=-great, most=great),
            lambda: Number(FIXED, least=(-1, 100), most=(1, 50)), lambda: Number(FIXED, least=(7, 1)),
            lambda: Number(Word("fixed"), least=(7, 1), most=(7, 1)), lambda: Number(WHOLE, rest=(0, 1)),
            lambda: Number(WHOLE, rest=(11, 12)), lambda: Number(WHOLE, ahead=SIGNS, behind=SIGNS),
            lambda: Number(WHOLE, least=4, rest=(0, 3)), lambda: Number(Word("fixed", places=12, base=36)),
            lambda: Only(0, " "), lambda: Only(-great, SIGNS), lambda: Only((0, 1), "0"), lambda: Only((-7, great), "x"),
            lambda: Choice([ONLY]), lambda: Choice((NUMBER,)), lambda: Choice([ONLY] * 8),
            lambda: Choice([Number(WHOLE), Number(Word(base=2)), ONLY]), lambda: Choice([Only((1, 3), "a"), Only((7, 1), "b")]),
            lambda: Choice([Number(FIXED), Only((1, 4), "a"), Number(Word("fixed", places=2, mode="up", width=5))]),
            lambda: Text(SIGNS), lambda: Text("a", least=0, most=0), lambda: Text("a", least=great, most=great),
            lambda: Text("a", quote=" "), lambda: Text("a", quote="{"), lambda: Text("a", width=24, fill="~", side="right"),
            lambda: Sizes([2], ["a"]), lambda: Sizes((1000,) * 8, ["0", "1", "2", "3", "4", "5", "6", "-"]),
            lambda: Record([]), lambda: Record(()), lambda: Record([" "], unwritten=[]),
            lambda: Record(["x", ("keep", ONLY), ("apart", ONLY), ("abcdefgh", ONLY), ("a", Named("a"))]),
            lambda: Record([("a", NUMBER, "b"), ("b", Number(WHOLE, least=24, most=24))]),
            lambda: Record([("a", Number(FIXED), "b"), ("b", Number(Word(base=2, width=9), least=0, most=0, rest=(1, 2)))]),
            lambda: Record([("a", NUMBER, "w"), ("b", NUMBER, "w")], unwritten=(("w", WIDTH), ("v", WIDTH))),
            lambda: Record(["x"], unwritten=[("v", WIDTH)]), lambda: Record([("a", Record([("a", ONLY)]))]),
            lambda: Listing(Named("a"), " "), lambda: Listing(NUMBER, SIGNS, least=0, most=0),
            lambda: Cases([("a", ONLY)]), lambda: Cases((("keep", Named("a")), ("abcdefgh", ONLY))),
            lambda: Padded(ONLY, 0), lambda: Padded(Padded(ONLY, 24, fill="0", side="middle"), 24),
            lambda: Named("a"), lambda: Named("abcdefgh"), lambda: Named("keeps"), lambda: Named("kept"),
        ]:
            self.assertIsInstance(make(), Kind)

    def test_each_argument_wrong(self):
        fields = {(made, name) for made in MADE for name, alone, default in MADE[made]}
        self.assertEqual(set(WRONG), fields)
        for made, name in WRONG:
            for value in WRONG[(made, name)]:
                with self.subTest(made=made.__name__, name=name, value=value):
                    self.assertEqual(refusal(self, NoKind, made, **{**RIGHT[made], name: value}).field, name)

    def test_most_below_least(self):
        self.assertEqual(refusal(self, NoKind, Number, WHOLE, least=91, most=90).field, "most")
        self.assertEqual(refusal(self, NoKind, Number, WHOLE, least=-1, most=-2, rest=0).field, "most")
        self.assertEqual(refusal(self, NoKind, Text, "a", least=1, most=0).field, "most")
        self.assertEqual(refusal(self, NoKind, Listing, NUMBER, " ", least=10 ** 59, most=10 ** 59 - 1).field, "most")

    def test_fixed_numbers(self):
        for value in [1, 0, (1, 3), (1, 200), (2, 4), (1, 0), (1, -2), [1, 2], (1,), (1, 2, 3), "1", True, (True, 1), (1, True)]:
            self.assertEqual(refusal(self, NoKind, Number, FIXED, least=value).field, "least")
            self.assertEqual(refusal(self, NoKind, Number, FIXED, most=value).field, "most")
        self.assertEqual(refusal(self, NoKind, Number, FIXED, least=(1, 2), most=(49, 100)).field, "most")
        self.assertEqual(refusal(self, NoKind, Number, FIXED, least=(-1, 4), most=(-1, 2)).field, "most")

    def test_the_first_of_two(self):
        draw = random.Random(80)
        for made in MADE:
            names = [name for name, alone, default in MADE[made]]
            for time in range(60):
                chosen = [name for name in names if draw.random() < 0.6] or names[:1]
                wrong = {name: draw.choice(WRONG[(made, name)]) for name in chosen}
                self.assertEqual(refusal(self, NoKind, made, **{**RIGHT[made], **wrong}).field, chosen[0], wrong)

    def test_of_anything(self):
        # What THINGS has and an argument may be.
        fit = {
            (Number, "word"): lambda thing: thing == WHOLE,
            (Number, "least"): lambda thing: thing is None or type(thing) is int,
            (Number, "most"): lambda thing: thing is None or type(thing) is int and thing >= -5,
            (Number, "rest"): lambda thing: thing in [None, (0, 1)], (Number, "ahead"): lambda thing: type(thing) is str,
            (Number, "behind"): lambda thing: type(thing) is str,
            (Only, "thing"): lambda thing: type(thing) is int or thing == (0, 1), (Only, "row"): lambda thing: type(thing) is str and thing,
            (Text, "signs"): lambda thing: thing in ["x", "no", "abc", "0", " "],
            (Text, "least"): lambda thing: type(thing) is int and thing >= 0,
            (Text, "most"): lambda thing: thing is None or type(thing) is int and thing >= 1,
            (Text, "quote"): lambda thing: thing is None or thing in ["x", "0", " "],
            (Text, "width"): lambda thing: type(thing) is int and 0 <= thing <= 24,
            (Text, "fill"): lambda thing: thing in ["x", "0", " "],
            (Record, "pieces"): lambda thing: thing in [[], (), ["1"], ("1",), ("1", "2")],
            (Listing, "between"): lambda thing: type(thing) is str and thing,
            (Listing, "least"): lambda thing: type(thing) is int and thing >= 0,
            (Listing, "most"): lambda thing: thing is None or type(thing) is int and thing >= 1,
            (Padded, "width"): lambda thing: type(thing) is int and 0 <= thing <= 24,
            (Padded, "fill"): lambda thing: thing in ["x", "0", " "],
            (Named, "name"): lambda thing: thing in ["x", "no", "abc"],
            (Sizes, "marks"): lambda thing: thing == ("1", "2"), (Sizes, "sizes"): lambda thing: False,
        }
        for made, name in WRONG:
            for thing in THINGS:
                named = {**RIGHT[made], name: thing}
                if name == "least":
                    named["most"] = None
                with self.subTest(made=made.__name__, name=name, thing=thing):
                    if fit.get((made, name), lambda thing: False)(thing):
                        self.assertIsInstance(made(**named), made)
                    elif (made, name) == (Record, "unwritten"):
                        # Nothing tells the width of b any more.
                        self.assertEqual(refusal(self, NoKind, made, **named).field, "pieces")
                    else:
                        self.assertEqual(refusal(self, NoKind, made, **named).field, name)

    def test_unwritten_of_anything(self):
        for thing in THINGS:
            if thing in [[], ()]:
                Record(["x"], unwritten=thing)
            else:
                self.assertEqual(refusal(self, NoKind, Record, ["x"], unwritten=thing).field, "unwritten")


class TestRecordsFields(unittest.TestCase):
    """[84]: pieces, or unwritten."""

    def field(self, pieces, unwritten):
        return refusal(self, NoKind, Record, pieces, unwritten=unwritten).field

    def test_an_other_one_that_is_so_nowhere(self):
        late = ("b", NUMBER, "c")
        for unwritten in [[], (), None, 5, "c", [("d", WIDTH)], [("c", NUMBER)], [("c", Text("a"))], [("c",)], ["c"],
                          [["c", WIDTH]], [("C", WIDTH)], [("c", WIDTH, "d")], {"c": WIDTH}]:
            self.assertEqual(self.field([late], unwritten), "pieces", unwritten)

    def test_so_as_one_unwritten_beside_others_that_are_not(self):
        late = ("b", NUMBER, "c")
        for more in [None, 5, "c", (), ("d",), ("d", NUMBER), ("c", NUMBER), ("c", WIDTH), ("b", WIDTH), ("D", WIDTH)]:
            self.assertEqual(self.field([late], [("c", WIDTH), more]), "unwritten", more)
            self.assertEqual(self.field([late], [more, ("c", WIDTH)]), "unwritten", more)

    def test_a_name_in_both(self):
        self.assertEqual(self.field([("c", WIDTH)], [("c", WIDTH)]), "unwritten")
        self.assertEqual(self.field([("b", NUMBER, "c"), ("c", WIDTH)], [("c", WIDTH)]), "unwritten")
        # As a field it tells no widths, as one unwritten it does.
        self.assertEqual(self.field([("b", NUMBER, "c"), ("c", ONLY)], [("c", WIDTH)]), "unwritten")
        self.assertEqual(self.field([("c", NUMBER, "c")], [("c", WIDTH)]), "unwritten")
        # The other way about.
        self.assertEqual(self.field([("b", NUMBER, "c"), ("c", WIDTH)], [("c", NUMBER)]), "unwritten")

    def test_an_other_one_that_has_a_third_part_itself(self):
        self.assertEqual(self.field([("b", NUMBER, "c"), ("c", WIDTH, "d"), ("d", WIDTH)], ()), "pieces")
        self.assertEqual(self.field([("b", NUMBER, "c"), ("c", WIDTH, "d")], [("d", WIDTH)]), "pieces")

    def test_names_twice(self):
        self.assertEqual(self.field([("a", ONLY), "x", ("a", ONLY)], ()), "pieces")
        self.assertEqual(self.field([("a", ONLY), ("a", NUMBER, "c")], [("c", WIDTH)]), "pieces")
        self.assertEqual(self.field([], [("c", WIDTH), ("c", WIDTH)]), "unwritten")

    def test_both_wrong(self):
        self.assertEqual(self.field([None], [None]), "pieces")
        self.assertEqual(self.field([("a", ONLY), ("a", ONLY)], None), "pieces")


class TestKept(unittest.TestCase):
    def test_lists_and_tuples(self):
        for made, name in [(Choice, "kinds"), (Sizes, "sizes"), (Sizes, "marks"), (Record, "pieces"),
                           (Record, "unwritten"), (Cases, "cases")]:
            value = RIGHT[made][name]
            one = made(**{**RIGHT[made], name: list(value)})
            other = made(**{**RIGHT[made], name: tuple(value)})
            self.assertTrue(one == other)
            self.assertFalse(one != other)

    def test_what_was_handed_in_is_changed_afterwards(self):
        for made, name in [(Choice, "kinds"), (Sizes, "sizes"), (Sizes, "marks"), (Record, "pieces"),
                           (Record, "unwritten"), (Cases, "cases")]:
            value = list(RIGHT[made][name])
            kind = made(**{**RIGHT[made], name: value})
            self.assertEqual(value, list(RIGHT[made][name]))
            value.append(None)
            value[0] = "changed"
            self.assertEqual(kind, made(**RIGHT[made]))
            value.clear()
            self.assertEqual(kind, made(**RIGHT[made]))


class TestEqual(unittest.TestCase):
    OTHERS = {
        Number: {"word": Word(width=3), "least": -4, "most": None, "rest": (2, 3), "ahead": "", "behind": ">"},
        Only: {"thing": (2, 3), "row": "two thirds"},
        Choice: {"kinds": [NUMBER, ONLY]},
        Text: {"signs": "abd", "least": 0, "most": None, "quote": None, "width": 8, "fill": " ", "side": "left"},
        Sizes: {"sizes": (60, 24), "marks": (":", "d ")},
        Record: {"pieces": ["(", ("a", NUMBER), ("b", NUMBER), ")"], "unwritten": [("c", WIDTH), ("d", WIDTH)]},
        Listing: {"kind": ONLY, "between": ",", "least": 0, "most": None},
        Cases: {"cases": [("b", ONLY), ("a", NUMBER)]},
        Padded: {"kind": ONLY, "width": 8, "fill": " ", "side": "right"},
        Named: {"name": "others"},
    }

    def test_twins(self):
        for made in RIGHT:
            one, other = made(**RIGHT[made]), made(**RIGHT[made])
            self.assertTrue(one == one)
            self.assertTrue(one == other)
            self.assertFalse(one != other)

    def test_one_argument_otherwise(self):
        for made in RIGHT:
            self.assertEqual(list(self.OTHERS[made]), [name for name, alone, default in MADE[made]])
            for name, value in self.OTHERS[made].items():
                other = made(**{**RIGHT[made], name: value})
                self.assertFalse(made(**RIGHT[made]) == other, (made, name))
                self.assertTrue(made(**RIGHT[made]) != other, (made, name))

    def test_other_things(self):
        for at, one in enumerate(KINDS):
            for also, other in enumerate(KINDS):
                self.assertEqual(one == other, at == also)
            for thing in THINGS + [vars(one), list(vars(one).values()), tuple(vars(one).values())]:
                self.assertFalse(one == thing)
                self.assertFalse(thing == one)

    def test_kinds_that_write_alike_are_not_equal(self):
        self.assertNotEqual(Only(5, "five"), Choice([Only(5, "five")]))
        self.assertNotEqual(Only(1, "a"), Only((1, 1), "a"))
        self.assertNotEqual(NUMBER, Padded(NUMBER, 0))
        self.assertNotEqual(Number(WHOLE), Number(WHOLE, rest=(0, 1)))

    def test_within_one_another(self):
        def deep(row):
            return Listing(Cases([("a", Padded(Record(["x", ("a", Choice([Only(1, row)]))]), 4))]), ";")
        self.assertTrue(deep("one") == deep("one"))
        self.assertFalse(deep("one") == deep("two"))


if __name__ == "__main__":
    unittest.main()
