"""[20] and [21]: Words and their texts, and [2] where it speaks of them."""

import unittest

from formatwords import words
from formatwords.errors import NoWord
from formatwords.ranges import Range
from formatwords.words import Word
from tests.helper import MODES, NO_TEXTS, refusal, signature_of

FIELDS = ["kind", "base", "width", "fill", "side", "sign", "mark", "group", "places", "mode", "step"]
DEFAULTS = ["whole", 10, 0, " ", "right", "minus", False, None, 0, "half", 1]
SIGNS = [chr(code) for code in range(32, 127) if code != 37]
GROUPS = [(sign, size) for sign in ",_'" for size in range(1, 10)]
RIGHT = {
    "kind": ["whole", "fixed", "power"],
    "base": list(range(2, 37)),
    "width": list(range(25)),
    "fill": [sign for sign in SIGNS if sign not in "{}"],
    "side": ["left", "right", "middle", "inner"],
    "sign": ["minus", "plus", "blank", "brackets", "behind"],
    "mark": [True, False],
    "group": [None] + GROUPS,
    "places": list(range(13)),
    "mode": list(MODES),
    "step": [1, 2, 3, 4],
}
OTHERS = NO_TEXTS + ["", "x", "no", "whole ", "10", 1000, 10 ** 40, Word(), (1, 2, 3), [",", 3], {"kind": "whole"}]
WRONG = {
    "kind": ["Whole", "w", "", "wholes", ["whole"], ("whole",), {"whole": 1}],
    "base": [1, 37, 0, -2, "10", [10], (10,), True, False, None],
    "width": [-1, 25, 26, "0", True, False, None, [0]],
    "fill": ["{", "}", chr(37), "", "  ", "ab", "\n", "\t", "\x7f", "\xe9", "\u2013", 32, None, True, [" "], (" ",)],
    "side": ["<", "Left", "", "centre", ["left"], None, 0, True],
    "sign": ["-", "", "Minus", "none", ["minus"], None, 0, True],
    "mark": [0, 1, None, "", "#", "True", [], [True], (True,), {}],
    "group": [
        [",", 3], (), (",",), (",", 3, 3), (",", 0), (",", 10), (",", -1), (",", True), (",", None), (",", "3"),
        ("", 3), (",_", 3), (".", 3), (" ", 3), (None, 3), (3, ","), ([","], 3), (("," ,), 3), ",3", ",", 3, True,
        False, {",": 3},
    ],
    "places": [-1, 13, 14, "2", True, False, None, [2], (2,)],
    "mode": ["h", "Half", "", "nearest", ["half"], None, 0, True, ("half",)],
    "step": [0, 5, -1, "1", True, False, None, [1], (1,)],
}
# What a field may need beside it to go with the kind.
KIND_FOR = {"places": "fixed", "mode": "fixed", "step": "power"}


def fields_of(word):
    return [getattr(word, name) for name in FIELDS]


class TestWord(unittest.TestCase):
    def test_defaults(self):
        self.assertEqual(fields_of(Word()), DEFAULTS)
        for told, default in zip(fields_of(Word()), DEFAULTS):
            self.assertIs(type(told), type(default))
        self.assertEqual((words.WIDEST, words.MOST_PLACES, words.BLANK), (24, 12, " "))

    def test_arguments(self):
        rows = [(name, name != "kind", default) for name, default in zip(FIELDS, DEFAULTS)]
        self.assertEqual(signature_of(Word), rows)
        self.assertEqual(Word("fixed"), Word(kind="fixed"))
        self.assertRaises(TypeError, Word, "whole", 16)
        self.assertEqual(Word(step=3, places=2, kind="power"), Word("power", places=2, step=3))
        for name in ("__init__", "__eq__", "__str__", "__repr__"):
            self.assertIn(name, vars(Word))

    def test_all_that_is_right(self):
        for name in FIELDS:
            for value in RIGHT[name]:
                named = {"kind": KIND_FOR.get(name, "whole"), name: value}
                word = Word(**named)
                self.assertEqual(getattr(word, name), value)
                for other, default in zip(FIELDS, DEFAULTS):
                    if other not in named:
                        self.assertEqual(getattr(word, other), default)

    def test_places_mode_and_group_with_their_kinds(self):
        for kind in ("fixed", "power"):
            for places in RIGHT["places"]:
                self.assertEqual(Word(kind, places=places).places, places)
            for mode in MODES:
                self.assertEqual(Word(kind, mode=mode).mode, mode)
        for kind in ("whole", "fixed"):
            for group in RIGHT["group"]:
                self.assertEqual(Word(kind, group=group).group, group)

    def test_all_that_is_wrong(self):
        for name in FIELDS:
            others = [thing for thing in OTHERS if not any(
                thing == value and type(thing) is type(value) for value in RIGHT[name])]
            for value in WRONG[name] + others:
                for kind in ("whole", "fixed", "power"):
                    with self.subTest(name=name, value=value, kind=kind):
                        named = {"kind": kind, name: value}
                        self.assertEqual(refusal(self, NoWord, Word, **named).field, name)

    def test_two_wrong_at_once(self):
        for at, first in enumerate(FIELDS):
            for second in FIELDS[at + 1:]:
                for value in WRONG[first][:4]:
                    named = {second: WRONG[second][0], first: value}
                    self.assertEqual(refusal(self, NoWord, Word, **named).field, first)

    def test_all_wrong_at_once(self):
        for at, first in enumerate(FIELDS):
            named = {name: WRONG[name][-1] for name in FIELDS[at:]}
            self.assertEqual(refusal(self, NoWord, Word, **named).field, first)

    def test_what_does_not_go_with_the_kind(self):
        rows = [
            ("whole", {"places": 1}, "places"), ("whole", {"places": 12}, "places"),
            ("whole", {"mode": "down"}, "mode"), ("whole", {"mode": "even"}, "mode"), ("whole", {"step": 2}, "step"),
            ("fixed", {"step": 2}, "step"), ("fixed", {"step": 4}, "step"), ("power", {"group": (",", 3)}, "group"),
            ("whole", {"places": 1, "mode": "up"}, "places"), ("whole", {"mode": "up", "step": 3}, "mode"),
            ("whole", {"places": 1, "step": 3}, "places"), ("whole", {"places": 1, "mode": "up", "step": 3}, "places"),
            ("whole", {"group": (",", 3), "places": 2}, "places"), ("whole", {"group": ("_", 1), "step": 2}, "step"),
            ("fixed", {"group": (",", 3), "places": 2, "mode": "up", "step": 2}, "step"),
            ("power", {"group": (",", 3), "places": 2, "mode": "up", "step": 2}, "group"),
        ]
        for kind, named, field in rows:
            with self.subTest(kind=kind, named=named):
                self.assertEqual(refusal(self, NoWord, Word, kind, **named).field, field)
        for kind, named in (("fixed", {"group": (",", 3), "places": 2, "mode": "up"}),
                            ("power", {"places": 2, "mode": "up", "step": 4}), ("whole", {"group": ("'", 9)})):
            Word(kind, **named)

    def test_wrong_in_itself_goes_ahead_of_what_does_not_go_with_the_kind(self):
        rows = [
            ("whole", {"places": 2, "step": 9}, "step"), ("whole", {"places": 2, "mode": "x"}, "mode"),
            ("power", {"group": (",", 3), "step": 0}, "step"), ("power", {"group": (",", 3), "places": 13}, "places"),
            ("whole", {"places": 2, "base": 1}, "base"), ("fixed", {"step": 2, "mark": 1}, "mark"),
            ("whole", {"mode": "up", "step": True}, "step"), ("power", {"group": (",", 0), "step": 9}, "group"),
        ]
        for kind, named, field in rows:
            self.assertEqual(refusal(self, NoWord, Word, kind, **named).field, field)
        self.assertEqual(refusal(self, NoWord, Word, "x", places=2).field, "kind")

    def test_equal(self):
        samples = [Word()]
        for name in FIELDS:
            for value in [RIGHT[name][0], RIGHT[name][-1], RIGHT[name][len(RIGHT[name]) // 2]]:
                for kind in ("whole", "fixed", "power"):
                    try:
                        samples.append(Word(**{"kind": kind, name: value}))
                    except NoWord:
                        pass
        for one in samples:
            for other in samples:
                alike = fields_of(one) == fields_of(other)
                self.assertIs(one == other, alike)
                self.assertIs(one != other, not alike)
            self.assertEqual(one, Word(**dict(zip(FIELDS, fields_of(one)))))

    def test_equal_to_nothing_else(self):
        for thing in NO_TEXTS + ["w", "Word(w)", "", fields_of(Word()), tuple(fields_of(Word())), Range(None, None)]:
            self.assertIs(Word() == thing, False)
            self.assertIs(thing == Word(), False)


class TestTexts(unittest.TestCase):
    def test_the_document_s_own(self):
        self.assertEqual(str(Word(base=16, width=12, fill="*", sign="plus", mark=True, group=(",", 3))), "*>+#12,3w16")
        self.assertEqual(str(Word(width=8, side="left")), "<8w")
        self.assertEqual(str(Word("fixed", places=2, mode="down")), ".2!df")
        self.assertEqual(str(Word("power", places=3, base=10, step=3)), ".3p/3")

    def test_each_part_by_default(self):
        self.assertEqual([str(Word(kind)) for kind in ("whole", "fixed", "power")], ["w", "f", "p"])

    def test_each_part(self):
        rows = [
            ({"fill": "*", "side": "left"}, "*<w"), ({"fill": "*"}, "*>w"), ({"fill": "*", "side": "middle"}, "*^w"),
            ({"fill": "*", "side": "inner"}, "*=w"), ({"side": "left"}, "<w"), ({"side": "middle"}, "^w"),
            ({"side": "inner"}, "=w"), ({"side": "right"}, "w"), ({"fill": "<", "side": "left"}, "<<w"),
            ({"fill": "<"}, "<>w"), ({"fill": "#"}, "#>w"), ({"fill": ".", "side": "inner"}, ".=w"),
            ({"fill": "+", "sign": "plus"}, "+>+w"), ({"fill": "0", "side": "inner", "width": 7}, "0=7w"),
            ({"fill": "w", "side": "middle"}, "w^w"), ({"fill": "~", "side": "left", "sign": "blank"}, "~<~w"),
            ({"fill": ">"}, ">>w"), ({"fill": "=", "side": "inner"}, "==w"), ({"fill": "!"}, "!>w"),
            ({"sign": "plus"}, "+w"), ({"sign": "blank"}, "~w"), ({"sign": "brackets"}, "(w"),
            ({"sign": "behind"}, ")w"), ({"mark": True}, "#w"), ({"width": 1}, "1w"), ({"width": 24}, "24w"),
            ({"group": (",", 3)}, ",3w"), ({"group": ("_", 1)}, "_1w"), ({"group": ("'", 9)}, "'9w"),
            ({"base": 2}, "w2"), ({"base": 9}, "w9"), ({"base": 11}, "w11"), ({"base": 36}, "w36"),
            ({"kind": "fixed", "places": 1}, ".1f"), ({"kind": "fixed", "places": 12}, ".12f"),
            ({"kind": "fixed", "mode": "down"}, "!df"), ({"kind": "fixed", "mode": "up"}, "!uf"),
            ({"kind": "fixed", "mode": "floor"}, "!ff"), ({"kind": "fixed", "mode": "roof"}, "!rf"),
            ({"kind": "fixed", "mode": "even"}, "!ef"), ({"kind": "fixed", "mode": "half"}, "f"),
            ({"kind": "power", "step": 2}, "p/2"), ({"kind": "power", "step": 4, "base": 2}, "p2/4"),
            ({"kind": "power", "places": 12, "mode": "even", "base": 36, "step": 3, "fill": "/", "side": "left",
              "sign": "behind", "mark": True, "width": 20}, "/<)#20.12!ep36/3"),
            ({"kind": "fixed", "places": 2, "mode": "roof", "base": 16, "group": ("_", 4), "side": "inner",
              "sign": "brackets", "mark": True, "width": 9}, "=(#9_4.2!rf16"),
        ]
        for named, text in rows:
            self.assertEqual(str(Word(**named)), text)
            self.assertEqual(repr(Word(**named)), f"Word({text})")

    def test_repr(self):
        self.assertEqual(repr(Word()), "Word(w)")
        self.assertEqual(repr(Word("power", places=3, step=3)), "Word(.3p/3)")


if __name__ == "__main__":
    unittest.main()
