"""[60] and [61]: Machines, and what is told of texts."""

import random
import unittest

from formatwords.errors import NoMachine
from formatwords.machines import Machine, far, least_text, runs
from tests.helper import THINGS, drawn_machine, refusal, runs_by, signature_of, texts_of

FIELDS = ["many", "begins", "steps", "ends"]
RIGHT = {"many": 3, "begins": (0, 2), "steps": ((0, "ab", 1), (0, "b", 0), (1, " ~", 2), (2, "!", 0)), "ends": (1, 2)}
NO_PLACES = [
    [0, 2], [], (0, 3), (-1, 0), (2, 0), (0, 0), (1, 1, 2), (0, True), (False, 1), (True,), (None,), ("0",), ((0,),),
    (0, [1]), 0, None, True, "01", {0: 2}, {}, (0, 1, 2, 3), (10 ** 59,),
]
WRONG = {
    "many": [-1, -10 ** 59, True, False, None, "3", [3], (3,), {}, Machine(3, (), (), ())],
    "begins": NO_PLACES,
    "ends": NO_PLACES,
    "steps": [
        [], None, True, 0, "", {}, [(0, "a", 1)], (0, "a", 1), ((0, "a"),), ((0, "a", 1, 2),), ([0, "a", 1],),
        ((0, "", 1),), ((0, "ba", 1),), ((0, "aa", 1),), ((0, "abb", 1),), ((0, "a\n", 1),), ((0, "\n", 1),),
        ((0, chr(37), 1),), ((0, "a\x7f", 1),), ((0, "a\xe9", 1),), ((0, 1, 1),), ((0, None, 1),), ((0, ["a"], 1),),
        ((0, ("a",), 1),), ((3, "a", 1),), ((0, "a", 3),), ((-1, "a", 1),), ((0, "a", -1),), ((True, "a", 1),),
        ((0, "a", False),), ((None, "a", 1),), ((0, "a", None),), (("0", "a", 1),), ((0, "a", "1"),), (None,), ("0a1",),
        ((1, "a", 0), (0, "a", 1)), ((0, "a", 1), (0, "a", 1)), ((0, "b", 1), (0, "a", 2)), ((0, "a", 2), (0, "a", 1)),
        ((0, "a", 1), (0, "b", 1)), ((0, "a", 1), (0, "ab", 1)), ((1, "a", 1), (1, "b", 1)),
        ((0, "a", 1), (0, "b", 2), (0, "c", 1)), ((0, "a", 1), None), ((0, "a", 1), ()),
    ],
}


class TestMachine(unittest.TestCase):
    def test_arguments(self):
        self.assertEqual(signature_of(Machine), [(name, False, "none") for name in FIELDS])
        for name in ("__init__", "__eq__", "__len__"):
            self.assertIn(name, vars(Machine))
        self.assertEqual(Machine(ends=(1, 2), steps=RIGHT["steps"], begins=(0, 2), many=3), Machine(**RIGHT))

    def test_fields(self):
        machine = Machine(**RIGHT)
        for name in FIELDS:
            self.assertEqual(getattr(machine, name), RIGHT[name])
            self.assertIs(type(getattr(machine, name)), type(RIGHT[name]))

    def test_right(self):
        signs = "".join(chr(code) for code in range(32, 127) if code != 37)
        for machine in [
            Machine(0, (), (), ()), Machine(1, (), (), ()), Machine(1, (0,), ((0, "a", 0),), (0,)),
            Machine(3, (0, 1, 2), (), (0, 1, 2)), Machine(2, (1,), ((0, signs, 1), (1, signs, 0)), (0,)),
            Machine(2, (), ((0, "a", 0), (0, "a", 1), (1, "a", 0), (1, "b", 1)), ()),
            Machine(3000, (2999,), ((2999, "x", 2999),), (0, 2999)),
        ]:
            self.assertIsInstance(machine, Machine)

    def test_each_field_wrong(self):
        for name in FIELDS:
            for value in WRONG[name]:
                with self.subTest(name=name, value=value):
                    self.assertEqual(refusal(self, NoMachine, Machine, **{**RIGHT, name: value}).field, name)

    def test_of_anything(self):
        for thing in THINGS:
            with self.subTest(thing=thing):
                if type(thing) is int and thing >= 0:
                    self.assertEqual(Machine(thing, (), (), ()).many, thing)
                else:
                    self.assertEqual(refusal(self, NoMachine, Machine, thing, (), (), ()).field, "many")
                for name in FIELDS[1:]:
                    if thing == () or thing == (0, 1) and name != "steps":
                        self.assertEqual(getattr(Machine(**{**RIGHT, name: thing}), name), thing)
                    else:
                        self.assertEqual(refusal(self, NoMachine, Machine, **{**RIGHT, name: thing}).field, name)

    def test_the_first_of_several(self):
        draw = random.Random(60)
        for time in range(600):
            names = [name for name in FIELDS if draw.random() < 0.5] or ["ends"]
            wrong = {name: draw.choice(WRONG[name]) for name in names}
            self.assertEqual(refusal(self, NoMachine, Machine, **{**RIGHT, **wrong}).field, names[0], wrong)

    def test_places_beyond_many(self):
        for many in (0, 1, 7):
            self.assertEqual(refusal(self, NoMachine, Machine, many, (many,), (), ()).field, "begins")
            self.assertEqual(refusal(self, NoMachine, Machine, many, (), (), (many,)).field, "ends")
            self.assertEqual(refusal(self, NoMachine, Machine, many, (), ((many, "a", 0),), ()).field, "steps")
        self.assertEqual(refusal(self, NoMachine, Machine, 2, (0,), ((0, "a", 2),), ()).field, "steps")
        self.assertEqual(refusal(self, NoMachine, Machine, 0, (), ((0, "a", 0),), ()).field, "steps")

    def test_length(self):
        for many in (0, 1, 2, 3, 3000):
            self.assertEqual(len(Machine(many, (), (), ())), many)

    def test_equal(self):
        machine = Machine(**RIGHT)
        self.assertTrue(machine == Machine(**RIGHT))
        self.assertFalse(machine != Machine(**RIGHT))
        others = {"many": 4, "begins": (0,), "steps": RIGHT["steps"][1:], "ends": (2,)}
        for name in FIELDS:
            self.assertFalse(machine == Machine(**{**RIGHT, name: others[name]}), name)
        for thing in THINGS + [tuple(RIGHT.values()), list(RIGHT.values()), RIGHT]:
            self.assertFalse(machine == thing)
            self.assertFalse(thing == machine)
        self.assertTrue(Machine(0, (), (), ()) == Machine(0, (), (), ()))


# Two runs of "ab", one of "b" and of "", none of "a"; from place 4 no end can be come to.
SOME = Machine(5, (0, 2), ((0, "a", 0), (0, "a", 1), (0, "b", 3), (1, "b", 3), (2, "c", 4), (4, "cd", 4)), (2, 3))
VOID = [Machine(0, (), (), ()), Machine(2, (), ((0, "a", 1),), (1,)), Machine(2, (0,), ((0, "a", 1),), ()),
        Machine(2, (0,), ((1, "a", 0),), (1,))]


class TestRuns(unittest.TestCase):
    def test_arguments(self):
        for action in (runs, far):
            self.assertEqual(signature_of(action), [("machine", False, "none"), ("text", False, "none")])
        self.assertEqual(signature_of(least_text), [("machine", False, "none")])
        self.assertEqual((runs(text="b", machine=SOME), far(text="b", machine=SOME), least_text(machine=SOME)),
                         (1, 1, ""))

    def test_by_hand(self):
        for text, many in [("", 1), ("a", 0), ("b", 1), ("ab", 2), ("aab", 2), ("abb", 0), ("c", 0), ("~", 0)]:
            self.assertEqual(runs(SOME, text), many, text)

    def test_several_runs_of_the_text_without_signs(self):
        machine = Machine(3, (0, 1, 2), (), (0, 2))
        self.assertEqual(runs(machine, ""), 2)
        self.assertEqual(runs(machine, "a"), 0)

    def test_many_runs(self):
        machine = Machine(2, (0, 1), ((0, "a", 0), (0, "a", 1), (1, "a", 0), (1, "a", 1)), (0,))
        self.assertEqual(runs(machine, "a" * 400), 2 ** 400)

    def test_far(self):
        for text, many in [("", 0), ("a", 1), ("aa", 2), ("aab", 3), ("aabb", 3), ("c", 0), ("cd", 0), ("bb", 1),
                           ("~", 0), ("aaca", 2)]:
            self.assertEqual(far(SOME, text), many, text)

    def test_far_is_none_where_no_text_has_a_run(self):
        for machine in VOID:
            for text in ("", "a", "ab"):
                self.assertIsNone(far(machine, text))

    def test_least_text(self):
        self.assertEqual(least_text(SOME), "")
        self.assertEqual(least_text(Machine(2, (0,), ((0, "bc", 1), (1, "a", 1)), (1,))), "b")
        # "ba" and "ab" are as short; the first step that is by the lesser sign leads nowhere.
        machine = Machine(5, (0,), ((0, " ", 4), (0, "a", 1), (0, "b", 2), (1, "bc", 3), (2, "a", 3), (3, "a", 3)), (3,))
        self.assertEqual(least_text(machine), "ab")
        machine = Machine(4, (0, 1), ((0, "b", 2), (1, "a", 3), (2, " ", 2), (3, "~", 2)), (2,))
        self.assertEqual(least_text(machine), "b")
        for machine in VOID:
            self.assertIsNone(least_text(machine))

    def test_least_text_of_a_long_way(self):
        steps = tuple((at, "xz" if at < 500 else "y", at + 1) for at in range(600))
        self.assertEqual(least_text(Machine(601, (0,), steps, (600,))), "x" * 500 + "y" * 100)

    def test_drawn(self):
        draw = random.Random(61)
        for time in range(400):
            machine = drawn_machine(draw)
            held = [text for text in texts_of("ab", 5) if runs_by(machine, text) > 0]
            for text in texts_of("ab", 4):
                self.assertEqual(runs(machine, text), runs_by(machine, text))
            self.assertEqual(least_text(machine), held[0] if held else None)
            for text in texts_of("abc", 2):
                begun = [at for at in range(len(text) + 1) if any(one.startswith(text[:at]) for one in held)]
                self.assertEqual(far(machine, text), max(begun) if held else None, (vars(machine), text))


if __name__ == "__main__":
    unittest.main()
