"""[70] and [71]: papers looked at."""

import random
import unittest

from formatwords.decidelooks import shows_apart, shows_clear
from formatwords.deciding import apart, clear
from formatwords.machines import Machine
from tests.helper import THINGS, drawn_machine, is_apart_paper, is_clear_paper, signature_of

# Two begins; what parts at place 0; what meets again at 3; none of these two ends.
FORKED = Machine(6, (0, 5), ((0, "ab", 1), (0, "bc", 2), (1, "x", 3), (2, "xy", 3), (3, "z", 3), (5, "q", 5)), (1,))
UNCLEAR = Machine(2, (0, 1), (), (0, 1))
VOID = Machine(0, (), (), ())


def spoilt(paper, many):
    """Things that are like this paper, and no papers by their form alone."""
    first = paper[0]
    return [
        tuple(paper), {pair: True for pair in paper}, [list(pair) for pair in paper], [list(first)] + paper[1:],
        paper + [None], paper + [()], paper + [(0,)], paper + [(0, 1, 2)], paper + [(0, many)], paper + [(-1, 0)],
        paper + [(0, None)], paper + [("0", "1")], paper + [(0, True)], paper + [(False, 1)], paper + [[0, 1]],
        paper + ["01"], paper + [0], paper + [(0, (1,))], paper + [(0, [1])], paper + [{}], [paper], (paper,),
        paper + [paper], paper + [FORKED], paper + [(0, 10 ** 59)],
    ]


class TestShowsClear(unittest.TestCase):
    def test_arguments(self):
        self.assertEqual(signature_of(shows_clear), [("machine", False, "none"), ("thing", False, "none")])
        self.assertIs(shows_clear(thing=[], machine=VOID), True)

    def test_by_hand(self):
        paper = [(0, 5), (1, 2), (3, 3)]
        self.assertIs(shows_clear(FORKED, paper), True)
        self.assertEqual(clear(FORKED), ("clear", paper))
        for at in range(3):
            self.assertIs(shows_clear(FORKED, paper[:at] + paper[at + 1:]), False)

    def test_in_another_order_and_twice(self):
        paper = [(3, 3), (0, 5), (1, 2), (0, 5), (3, 3)]
        self.assertIs(shows_clear(FORKED, paper), True)
        self.assertIs(shows_clear(FORKED, paper[::-1]), True)
        self.assertEqual(paper, [(3, 3), (0, 5), (1, 2), (0, 5), (3, 3)])

    def test_more_tuples(self):
        paper = [(0, 5), (1, 2), (3, 3)]
        for pair in [(4, 4), (4, 5), (0, 4), (2, 3), (5, 5), (3, 5), (1, 5), (2, 2)]:
            self.assertIs(shows_clear(FORKED, paper + [pair]), True, pair)
        # An end with itself; what leads on to pairs that are not there, or to such an end.
        for pair in [(1, 1), (0, 0)]:
            self.assertIs(shows_clear(FORKED, paper + [pair]), False, pair)
        other = Machine(4, (0,), ((1, "a", 2), (2, "ab", 3)), (0,))
        self.assertIs(shows_clear(other, []), True)
        self.assertIs(shows_clear(other, [(1, 2)]), False)
        self.assertIs(shows_clear(other, [(1, 2), (2, 3)]), True)

    def test_the_lesser_place_second(self):
        self.assertIs(shows_clear(FORKED, [(5, 0), (1, 2), (3, 3)]), False)
        self.assertIs(shows_clear(FORKED, [(0, 5), (5, 0), (1, 2), (3, 3)]), False)
        self.assertIs(shows_clear(FORKED, [(0, 5), (1, 2), (2, 1), (3, 3)]), False)

    def test_what_can_not_be_come_to(self):
        steps = ((0, "a", 0), (1, "a", 2), (1, "a", 3))
        self.assertIs(shows_clear(Machine(4, (0,), steps, (0, 2, 3)), []), True)
        self.assertIs(shows_clear(Machine(4, (1,), steps, (0,)), []), False)
        self.assertIs(shows_clear(Machine(4, (1,), steps, (0,)), [(2, 3)]), True)

    def test_things_of_all_kinds(self):
        for thing in THINGS:
            self.assertIs(shows_clear(FORKED, thing), False)
            self.assertIs(shows_clear(VOID, thing), thing == [])
        for thing in spoilt([(0, 5), (1, 2), (3, 3)], 6):
            self.assertIs(shows_clear(FORKED, thing), False, thing)

    def test_unclear_ones_have_no_paper(self):
        pairs = [(0, 0), (0, 1), (1, 1)]
        for choice in range(8):
            paper = [pair for at, pair in enumerate(pairs) if choice >> at & 1]
            self.assertIs(shows_clear(UNCLEAR, paper), False)

    def test_drawn(self):
        draw = random.Random(70)
        told = []
        for time in range(700):
            machine = drawn_machine(draw)
            word, paper = clear(machine)
            for again in range(6):
                rows = [(one, other) for one in range(machine.many) for other in range(machine.many)
                        if draw.random() < 0.3 and (one <= other or draw.random() < 0.05)]
                if word == "clear":
                    self.assertIs(shows_clear(machine, paper), True)
                    rows += [pair for pair in paper if draw.random() < 0.9]
                draw.shuffle(rows)
                told.append(shows_clear(machine, rows))
                self.assertIs(told[-1], is_clear_paper(machine, rows), (vars(machine), rows))
                self.assertFalse(told[-1] and word == "alike")
        self.assertGreater(told.count(True), 300)
        self.assertGreater(told.count(False), 300)

    def test_all_papers_of_unclear_ones(self):
        draw = random.Random(71)
        tried = 0
        while tried < 40:
            machine = drawn_machine(draw, most=3)
            pairs = [(one, other) for one in range(machine.many) for other in range(one, machine.many)]
            if clear(machine)[0] == "alike":
                tried += 1
                for choice in range(2 ** len(pairs)):
                    rows = [pair for at, pair in enumerate(pairs) if choice >> at & 1]
                    self.assertIs(shows_clear(machine, rows), False)


EVEN = Machine(2, (0,), ((0, "ab", 1), (1, "ab", 0)), (0,))
ODD = Machine(3, (0,), ((0, "ab", 1), (1, "ab", 0), (2, "b", 2)), (1,))


class TestShowsApart(unittest.TestCase):
    def test_arguments(self):
        self.assertEqual(signature_of(shows_apart), [(name, False, "none") for name in ("one", "other", "thing")])
        self.assertIs(shows_apart(thing=[], other=EVEN, one=VOID), True)

    def test_by_hand(self):
        paper = [(0, 0), (1, 1)]
        self.assertEqual(apart(EVEN, ODD), ("apart", paper))
        self.assertIs(shows_apart(EVEN, ODD, paper), True)
        self.assertIs(shows_apart(EVEN, ODD, paper[::-1] + paper), True)
        self.assertIs(shows_apart(EVEN, ODD, [(0, 0)]), False)
        self.assertIs(shows_apart(EVEN, ODD, [(1, 1)]), False)
        self.assertIs(shows_apart(EVEN, ODD, []), False)

    def test_more_tuples(self):
        paper = [(0, 0), (1, 1)]
        # By themselves these lead on from one to the other.
        self.assertIs(shows_apart(EVEN, ODD, paper + [(0, 2)]), False)
        self.assertIs(shows_apart(EVEN, ODD, paper + [(0, 2), (1, 2)]), True)
        self.assertIs(shows_apart(EVEN, ODD, paper + [(0, 1), (1, 0)]), False)

    def test_places_of_the_one_and_of_the_other(self):
        paper = [(0, 0), (1, 1)]
        self.assertIs(shows_apart(EVEN, ODD, paper + [(0, 2), (1, 2)]), True)
        self.assertIs(shows_apart(EVEN, ODD, paper + [(2, 0)]), False)
        self.assertIs(shows_apart(ODD, EVEN, paper + [(2, 0), (2, 1)]), True)
        self.assertIs(shows_apart(ODD, EVEN, paper + [(0, 2), (1, 2)]), False)

    def test_things_of_all_kinds(self):
        for thing in THINGS:
            self.assertIs(shows_apart(EVEN, ODD, thing), False)
            self.assertIs(shows_apart(VOID, ODD, thing), thing == [])
        for thing in spoilt([(0, 0), (1, 1)], 3):
            self.assertIs(shows_apart(EVEN, ODD, thing), False, thing)
        self.assertIs(shows_apart(VOID, VOID, []), True)

    def test_those_that_meet_have_no_paper(self):
        pairs = [(one, other) for one in range(2) for other in range(2)]
        for choice in range(16):
            paper = [pair for at, pair in enumerate(pairs) if choice >> at & 1]
            self.assertIs(shows_apart(EVEN, EVEN, paper), False)

    def test_drawn(self):
        draw = random.Random(72)
        told = []
        for time in range(700):
            one, other = [drawn_machine(draw) for number in range(2)]
            word, paper = apart(one, other)
            for again in range(6):
                rows = [(first, second) for first in range(one.many) for second in range(other.many)
                        if draw.random() < 0.25]
                if word == "apart":
                    self.assertIs(shows_apart(one, other, paper), True)
                    rows += [pair for pair in paper if draw.random() < 0.9]
                draw.shuffle(rows)
                told.append(shows_apart(one, other, rows))
                self.assertIs(told[-1], is_apart_paper(one, other, rows))
                self.assertFalse(told[-1] and word == "met")
        self.assertGreater(told.count(True), 300)
        self.assertGreater(told.count(False), 300)


if __name__ == "__main__":
    unittest.main()
