"""[62]: Machines made of texts and of other Machines, held against the runs of all short texts."""

import random
import unittest

from formatwords.errors import Endless
from formatwords.joins import again, both, either, text_machine, then
from formatwords.machines import Machine, runs
from tests.helper import drawn_machine, refusal, runs_by, signature_of, texts_of

TEXTS = texts_of("ab", 4)
NONE = Machine(2, (0,), ((0, "a", 0),), (1,))
EMPTY = Machine(1, (0,), (), (0,))
TWICE_EMPTY = Machine(3, (0, 1, 2), (), (1, 2))
ONE = Machine(2, (0,), ((0, "a", 1),), (1,))
TWO = Machine(3, (0,), ((0, "a", 1), (0, "ab", 2)), (1, 2))
MERGED = Machine(4, (0,), ((0, "a", 1), (0, "a", 2), (1, "b", 3), (2, "b", 3), (3, "a", 0)), (0, 3))
ALL = Machine(1, (0,), ((0, "ab", 0),), (0,))
SMALL = [Machine(0, (), (), ()), NONE, EMPTY, TWICE_EMPTY, ONE, TWO, MERGED, ALL]


def parted(machines, text, between=""):
    """The runs of a text over all ways to part it among these, gone through."""
    if not machines:
        return int(text == "")
    if len(machines) == 1:
        return runs_by(machines[0], text)
    cuts = [at for at in range(len(text) + 1) if text[at:].startswith(between)]
    return sum(runs_by(machines[0], text[:at]) * parted(machines[1:], text[at + len(between):], between)
               for at in cuts if runs_by(machines[0], text[:at]))


class TestJoins(unittest.TestCase):
    def held(self, machine, count, about=None):
        self.assertIsInstance(machine, Machine)
        for text in TEXTS:
            self.assertEqual(runs(machine, text), count(text), (about, text))

    def test_arguments(self):
        plain = "none"
        self.assertEqual(signature_of(text_machine), [("text", False, plain)])
        self.assertEqual(signature_of(either), [("machines", False, plain)])
        self.assertEqual(signature_of(then), [("machines", False, plain)])
        self.assertEqual(signature_of(both), [("one", False, plain), ("other", False, plain)])
        self.assertEqual(signature_of(again), [("machine", False, plain), ("between", False, plain),
                                               ("least", True, 0), ("most", True, None)])
        self.assertRaises(TypeError, again, ONE, "", 0, None)
        self.held(both(other=ONE, one=ALL), lambda text: int(text == "a"))
        self.held(again(between="b", machine=ONE, most=1), lambda text: int(text in ("", "a")))

    def test_text_machine(self):
        for word in TEXTS[:10]:
            self.held(text_machine(word), lambda text: int(text == word), word)
        signs = "".join(chr(code) for code in range(32, 127) if code != 37)
        long = signs[::-1] + signs * 3
        self.assertEqual(runs(text_machine(long), long), 1)
        for other in (long[:-1], long + "a", long[1:], "", long.replace("~", "}")):
            self.assertEqual(runs(text_machine(long), other), 0)

    def test_either(self):
        self.held(either([]), lambda text: 0)
        for one in SMALL:
            self.held(either([one]), lambda text: runs_by(one, text))
            self.held(either([one, one]), lambda text: 2 * runs_by(one, text))
            for other in SMALL:
                self.held(either([one, other]), lambda text: runs_by(one, text) + runs_by(other, text))
                self.held(either([one, other, one]), lambda text: 2 * runs_by(one, text) + runs_by(other, text))

    def test_then(self):
        self.held(then([]), lambda text: int(text == ""))
        for one in SMALL:
            self.held(then([one]), lambda text: runs_by(one, text))
            for other in SMALL:
                self.held(then([one, other]), lambda text: parted([one, other], text), (vars(one), vars(other)))
                self.held(then([one, other, one]), lambda text: parted([one, other, one], text))
        self.held(then([TWICE_EMPTY] * 4), lambda text: 16 * int(text == ""))

    def test_lists_are_not_changed(self):
        machines = [ONE, TWO]
        either(machines)
        then(machines)
        self.assertEqual(machines, [ONE, TWO])
        joined = then(machines)
        machines.append(ONE)
        self.held(joined, lambda text: parted([ONE, TWO], text))

    def test_both(self):
        for one in SMALL:
            for other in SMALL:
                self.held(both(one, other), lambda text: runs_by(one, text) * runs_by(other, text))
        self.held(both(MERGED, MERGED), lambda text: runs_by(MERGED, text) ** 2)

    def counted(self, machine, between, least, most):
        def count(text):
            last = max(least, len(text) + 1) if most is None else most
            return sum(parted([machine] * many, text, between) for many in range(least, last + 1))
        return count

    def test_again(self):
        for machine in SMALL:
            for between in ("", "a", "b", "ab"):
                for least, most in [(0, 0), (0, 1), (0, 2), (1, 1), (1, 3), (2, 2), (3, 3)]:
                    self.held(again(machine, between, least=least, most=most),
                              self.counted(machine, between, least, most), (vars(machine), between, least, most))

    def test_again_without_end(self):
        for machine in SMALL:
            for between in ("", "a", "b", "ab"):
                for least in (0, 1, 2, 3):
                    if between == "" and runs_by(machine, "") > 0:
                        continue
                    self.held(again(machine, between, least=least), self.counted(machine, between, least, None),
                              (vars(machine), between, least))

    def test_left_out(self):
        self.held(again(ONE, "b"), lambda text: int(text in ("", "a", "aba")))
        self.held(again(ONE, "", least=2), lambda text: int(set(text) <= {"a"} and len(text) >= 2))
        self.held(again(ONE, "", most=2), lambda text: int(text in ("", "a", "aa")))

    def test_endless(self):
        for machine in SMALL:
            for least in (0, 1, 5):
                if runs_by(machine, ""):
                    refusal(self, Endless, again, machine, "", least=least)
                    refusal(self, Endless, again, machine, "", least=least, most=None)
                    again(machine, "a", least=least)
                    again(machine, "", least=0, most=2)
                else:
                    again(machine, "", least=least)

    def test_drawn(self):
        draw = random.Random(62)
        for time in range(150):
            one, other, third = [drawn_machine(draw, most=3) for number in range(3)]
            self.held(either([one, other, third]), lambda text: sum(runs_by(each, text) for each in (one, other, third)))
            self.held(then([one, other, third]), lambda text: parted([one, other, third], text))
            self.held(both(one, other), lambda text: runs_by(one, text) * runs_by(other, text))
            between = draw.choice(["", "a", "b", "ba"])
            least = draw.randint(0, 2)
            most = draw.choice([None, least, least + 1, least + 2])
            if most is None and between == "" and runs_by(one, ""):
                refusal(self, Endless, again, one, between, least=least)
            else:
                self.held(again(one, between, least=least, most=most), self.counted(one, between, least, most))

    def test_joined_again(self):
        number = then([again(Machine(2, (0,), ((0, "01", 1),), (1,)), "", least=1), text_machine(";")])
        rows = again(number, "", least=1, most=40)
        self.assertEqual(runs(rows, "0;" * 40), 1)
        self.assertEqual(runs(rows, "0;" * 41), 0)
        self.assertEqual(runs(again(number, ", "), "01;, 1;, 0;"), 1)


if __name__ == "__main__":
    unittest.main()
