"""[70] and [71]: clear and apart."""

import random
import unittest

from formatwords.deciding import apart, clear
from formatwords.machines import Machine
from tests.helper import drawn_machine, is_apart_paper, is_clear_paper, runs_by, signature_of, texts_of

TEXTS = texts_of("ab", 6)
VOID = [Machine(0, (), (), ()), Machine(2, (), ((0, "a", 1),), (1,)), Machine(2, (0,), ((0, "a", 1),), ())]
DEAD = Machine(4, (0,), ((0, "a", 1), (0, "a", 2), (1, "b", 3)), (3,))


class TestClear(unittest.TestCase):
    def held(self, machine):
        told = clear(machine)
        self.assertIs(type(told), tuple)
        self.assertEqual(len(told), 2)
        alike = [text for text in TEXTS if runs_by(machine, text) > 1]
        if told[0] == "alike":
            self.assertEqual(told[1], alike[0] if alike else told[1])
            self.assertGreater(runs_by(machine, told[1]), 1)
        else:
            self.assertEqual(told[0], "clear")
            self.assertEqual(alike, [])
            self.assertTrue(is_clear_paper(machine, told[1]), (vars(machine), told[1]))
        return told

    def test_arguments(self):
        self.assertEqual(signature_of(clear), [("machine", False, "none")])
        self.assertEqual(clear(machine=VOID[0]), ("clear", []))

    def test_without_runs(self):
        for machine in VOID:
            self.assertEqual(self.held(machine)[0], "clear")

    def test_the_text_without_signs(self):
        self.assertEqual(self.held(Machine(2, (0, 1), (), (0, 1))), ("alike", ""))
        self.assertEqual(self.held(Machine(2, (0, 1), (), (0,))), ("clear", [(0, 1)]))

    def test_parted_and_met_again(self):
        machine = Machine(4, (0,), ((0, "ab", 1), (0, "bc", 2), (1, "x", 3), (2, "xy", 3)), (3,))
        self.assertEqual(self.held(machine), ("alike", "bx"))
        machine = Machine(4, (0,), ((0, "ab", 1), (0, "bc", 2), (1, "x", 3), (2, "y", 3)), (3,))
        self.assertEqual(self.held(machine), ("clear", [(1, 2)]))

    def test_met_again_and_gone_on(self):
        machine = Machine(5, (0,), ((0, "a", 1), (0, "a", 2), (1, "b", 3), (2, "b", 3), (3, "cd", 4)), (4,))
        self.assertEqual(self.held(machine), ("alike", "abc"))

    def test_the_first_of_those_that_are_as_short(self):
        machine = Machine(5, (0,), ((0, "b", 3), (0, "b", 4), (0, "c", 1), (0, "c", 2), (1, "a", 1), (2, "a", 1),
                                    (3, "z", 1), (4, "yz", 1)), (1,))
        self.assertEqual(self.held(machine), ("alike", "bz"))

    def test_what_leads_to_no_end_is_in_the_paper(self):
        self.assertEqual(self.held(DEAD), ("clear", [(1, 2)]))

    def test_what_can_not_be_come_to_is_no_fault(self):
        machine = Machine(4, (0,), ((0, "a", 0), (1, "a", 2), (1, "a", 3)), (0, 2, 3))
        self.assertEqual(self.held(machine), ("clear", []))

    def test_many_signs_long(self):
        many = 200
        steps = [(0, "a", 0), (0, "a", 1)] + [(at, "ab", at + 1) for at in range(1, many)]
        told = clear(Machine(many + 1, (0,), tuple(sorted(steps)), (many,)))
        self.assertEqual(told[0], "clear")
        steps = [(0, "a", 1), (0, "a", 2)] + [(at, "ab", at + 2) for at in range(1, many - 1)] + [
            (many - 1, "c", many + 1), (many, "cd", many + 1)]
        self.assertEqual(clear(Machine(many + 2, (0,), tuple(sorted(steps)), (many + 1,))),
                         ("alike", "a" * (many // 2) + "c"))

    def test_drawn(self):
        draw = random.Random(70)
        words = []
        for time in range(600):
            machine = drawn_machine(draw, most=draw.choice([3, 4, 5]), signs=draw.choice(["ab", "ab", "abc"]))
            words.append(self.held(machine)[0])
        self.assertGreater(words.count("clear"), 100)
        self.assertGreater(words.count("alike"), 100)


class TestApart(unittest.TestCase):
    def held(self, one, other):
        told = apart(one, other)
        self.assertIs(type(told), tuple)
        self.assertEqual(len(told), 2)
        met = [text for text in TEXTS if runs_by(one, text) > 0 and runs_by(other, text) > 0]
        if told[0] == "met":
            self.assertEqual(told[1], met[0] if met else told[1])
            self.assertTrue(runs_by(one, told[1]) > 0 and runs_by(other, told[1]) > 0)
        else:
            self.assertEqual(told[0], "apart")
            self.assertEqual(met, [])
            self.assertTrue(is_apart_paper(one, other, told[1]), (vars(one), vars(other), told[1]))
        return told

    def test_arguments(self):
        self.assertEqual(signature_of(apart), [("one", False, "none"), ("other", False, "none")])
        self.assertEqual(apart(other=VOID[0], one=DEAD), ("apart", []))

    def test_without_runs(self):
        for one in VOID:
            for other in VOID + [DEAD]:
                self.assertEqual(self.held(one, other)[0], "apart")
                self.assertEqual(self.held(other, one)[0], "apart")

    def test_with_itself(self):
        self.assertEqual(self.held(DEAD, DEAD), ("met", "ab"))
        unclear = Machine(2, (0, 1), ((0, "a", 1), (1, "b", 0)), (0,))
        self.assertEqual(self.held(unclear, unclear), ("met", ""))

    def test_by_hand(self):
        even = Machine(2, (0,), ((0, "ab", 1), (1, "ab", 0)), (0,))
        odd = Machine(2, (0,), ((0, "ab", 1), (1, "ab", 0)), (1,))
        self.assertEqual(self.held(even, odd), ("apart", [(0, 0), (1, 1)]))
        self.assertEqual(self.held(even, Machine(4, (0,), ((0, "ab", 1), (1, "ab", 2), (2, "b", 3), (3, "ab", 1)),
                                                 (1,))), ("met", "aaba"))
        self.assertEqual(self.held(Machine(2, (0,), ((0, "xyz", 1),), (1,)), Machine(2, (0,), ((0, "ayz", 1),), (1,))),
                         ("met", "y"))

    def test_places_of_one_that_are_more(self):
        one = Machine(5, (4,), ((4, "a", 4),), (4,))
        other = Machine(2, (0,), ((0, "b", 1),), (1,))
        self.assertEqual(self.held(one, other), ("apart", [(4, 0)]))
        self.assertEqual(self.held(other, one), ("apart", [(0, 4)]))

    def test_drawn(self):
        draw = random.Random(71)
        words = []
        for time in range(500):
            one, other = [drawn_machine(draw, most=draw.choice([3, 4]), signs="ab") for number in range(2)]
            words.append(self.held(one, other)[0])
            self.assertEqual(self.held(other, one)[0], words[-1])
            self.held(one, one)
        self.assertGreater(words.count("apart"), 100)
        self.assertGreater(words.count("met"), 40)


class TestTold(unittest.TestCase):
    def test_each_paper_is_a_new_one(self):
        machine = Machine(3, (0, 1), ((0, "a", 1), (1, "b", 2)), ())
        for action in (lambda: clear(machine)[1], lambda: apart(machine, machine)[1]):
            paper = action()
            kept = list(paper)
            paper.append(None)
            self.assertEqual(action(), kept)


if __name__ == "__main__":
    unittest.main()
