"""[72]: runs counted, texts numbered."""

import random
import unittest

from formatwords.counting import counted, rank_of, ranked
from formatwords.deciding import clear
from formatwords.errors import NoRow, TooFar, Unclear
from formatwords.joins import again, either, text_machine, then
from formatwords.machines import Machine, far, runs
from tests.helper import drawn_machine, refusal, runs_by, signature_of, texts_of

VOID = [Machine(0, (), (), ()), Machine(2, (), ((0, "a", 1),), (1,)), Machine(2, (0,), ((0, "a", 0),), (1,)),
        Machine(3, (0,), ((1, "a", 1), (1, "a", 2)), (2,))]
AS = Machine(1, (0,), ((0, "a", 0),), (0,))
ANY = Machine(1, (0,), ((0, "ab", 0),), (0,))
DIGIT = Machine(2, (0,), ((0, "0123456789", 1),), (1,))
FIGURES = again(DIGIT, "", least=1)
FEW = either([text_machine(text) for text in ("b", "ab", "", "aaa", "a", "ba")])
FEW_TEXTS = ["", "a", "b", "ab", "ba", "aaa"]


class TestCounted(unittest.TestCase):
    def test_arguments(self):
        self.assertEqual(signature_of(counted), [("machine", False, "none"), ("long", False, "none")])
        self.assertEqual(counted(long=3, machine=ANY), 8)

    def test_by_hand(self):
        self.assertEqual([counted(FEW, long) for long in range(6)], [1, 2, 2, 1, 0, 0])
        self.assertEqual([counted(FIGURES, long) for long in range(4)], [0, 10, 100, 1000])
        for machine in VOID:
            self.assertEqual([counted(machine, long) for long in (0, 1, 2, 50, 10 ** 59)], [0] * 5)

    def test_runs_are_counted_not_texts(self):
        self.assertEqual([counted(either([ANY, ANY, AS]), long) for long in range(4)], [3, 5, 9, 17])
        self.assertEqual(counted(then([AS, AS]), 7), 8)

    def test_great_lengths(self):
        self.assertEqual(counted(ANY, 1000), 2 ** 1000)
        self.assertEqual(counted(ANY, 20000), 2 ** 20000)
        self.assertEqual(counted(FIGURES, 5000), 10 ** 5000)
        self.assertEqual(counted(AS, 10 ** 59), 1)
        self.assertEqual(counted(then([AS, AS]), 10 ** 59), 10 ** 59 + 1)
        self.assertEqual(counted(then([AS, text_machine("b"), AS, AS]), 10 ** 30), 10 ** 30 * (10 ** 30 + 1) // 2)
        self.assertEqual(counted(FEW, 10 ** 59), 0)
        thirds = Machine(3, (0,), ((0, "a", 1), (1, "a", 2), (2, "a", 0)), (0,))
        self.assertEqual([counted(thirds, 10 ** 59 + more) for more in range(3)], [0, 0, 1])

    def test_great_machines(self):
        many = 2500
        steps = tuple((at, "ab", at + 1) for at in range(many - 1))
        self.assertEqual(counted(Machine(many, (0,), steps, (many - 1,)), many - 1), 2 ** (many - 1))
        self.assertEqual(counted(Machine(many, (0,), steps, (many - 1,)), 10 ** 40), 0)

    def test_drawn(self):
        draw = random.Random(72)
        for time in range(400):
            machine = drawn_machine(draw)
            for long in range(6):
                texts = [text for text in texts_of("ab", long) if len(text) == long]
                self.assertEqual(counted(machine, long), sum(runs_by(machine, text) for text in texts))

    def test_both_ways_of_counting(self):
        draw = random.Random(73)
        for time in range(60):
            machine = drawn_machine(draw)
            row = {place: 1 for place in machine.begins}
            for long in range(200):
                self.assertEqual(counted(machine, long), sum(row.get(place, 0) for place in machine.ends))
                further = {}
                for place, signs, target in machine.steps:
                    further[target] = further.get(target, 0) + row.get(place, 0) * len(signs)
                row = further


class TestRanked(unittest.TestCase):
    def test_arguments(self):
        self.assertEqual(signature_of(ranked), [("machine", False, "none"), ("number", False, "none")])
        self.assertEqual(signature_of(rank_of), [("machine", False, "none"), ("text", False, "none")])
        self.assertEqual(ranked(number=3, machine=ANY), "aa")
        self.assertEqual(rank_of(text="aa", machine=ANY), 3)

    def test_by_hand(self):
        self.assertEqual([ranked(FEW, number) for number in range(6)], FEW_TEXTS)
        self.assertEqual([rank_of(FEW, text) for text in FEW_TEXTS], list(range(6)))
        self.assertEqual([ranked(ANY, number) for number in range(7)], ["", "a", "b", "aa", "ab", "ba", "bb"])
        self.assertEqual([ranked(FIGURES, number) for number in (0, 9, 10, 109, 110)], ["0", "9", "00", "99", "000"])

    def test_lengths_that_no_text_has(self):
        machine = again(text_machine("aab"), "", least=2)
        self.assertEqual([ranked(machine, number) for number in (0, 1, 30)], ["aab" * 2, "aab" * 3, "aab" * 32])
        self.assertEqual(rank_of(machine, "aab" * 32), 30)

    def test_too_far(self):
        for number in (6, 7, 100, 10 ** 59):
            self.assertEqual(refusal(self, TooFar, ranked, FEW, number).many, 6)
        for machine in VOID:
            for number in (0, 1, 10 ** 59):
                self.assertEqual(refusal(self, TooFar, ranked, machine, number).many, 0)
        great = again(DIGIT, "", least=55, most=55)
        self.assertEqual(refusal(self, TooFar, ranked, great, 10 ** 59).many, 10 ** 55)
        self.assertEqual(refusal(self, TooFar, ranked, great, 10 ** 55).many, 10 ** 55)
        self.assertEqual(ranked(great, 10 ** 55 - 1), "9" * 55)

    def test_what_is_on_no_run_changes_nothing(self):
        # A way round that can't be come to, and one from which no end can.
        machine = Machine(4, (0,), ((0, "a", 1), (0, "b", 3), (2, "ab", 1), (2, "c", 2), (3, "a", 3)), (1,))
        self.assertEqual(ranked(machine, 0), "a")
        self.assertEqual(refusal(self, TooFar, ranked, machine, 1).many, 1)

    def test_numbers_of_sixty_figures(self):
        draw = random.Random(60)
        for machine in (FIGURES, ANY, again(FIGURES, ","), then([ANY, text_machine("c"), AS])):
            for time in range(5):
                number = draw.randint(10 ** 59, 10 ** 60 - 1)
                text = ranked(machine, number)
                self.assertEqual(runs(machine, text), 1)
                self.assertEqual(rank_of(machine, text), number)
                self.assertNotEqual(ranked(machine, number + 1), text)
        self.assertEqual(ranked(FIGURES, 10 ** 59 + 11111), f"{10 ** 59 + 11111 - int('1' * 59) + 1:059d}")

    def test_long_texts(self):
        self.assertEqual(ranked(AS, 3000), "a" * 3000)
        self.assertEqual(rank_of(AS, "a" * 3000), 3000)
        self.assertEqual(rank_of(ANY, "b" * 400), 2 ** 401 - 2)

    def test_unclear(self):
        machine = either([ANY, text_machine("ba"), text_machine("ab")])
        for number in (0, 1, 10 ** 59):
            self.assertEqual(refusal(self, Unclear, ranked, machine, number).text, "ab")
        for text in ("", "ab", "x", "a"):
            self.assertEqual(refusal(self, Unclear, rank_of, machine, text).text, "ab")
        twice = Machine(2, (0, 1), (), (0, 1))
        self.assertEqual(refusal(self, Unclear, ranked, twice, 5).text, "")
        self.assertEqual(refusal(self, Unclear, rank_of, twice, "x").text, "")

    def test_no_row(self):
        machine = text_machine("abcd")
        for text, at in [("", 0), ("a", 1), ("ab", 2), ("abc", 3), ("abcde", 4), ("x", 0), ("axcd", 1), ("abxd", 2),
                         ("abcx", 3), ("abcdx", 4)]:
            self.assertEqual(refusal(self, NoRow, rank_of, machine, text).at, at)
        for machine in VOID:
            for text in ("", "a", "ab"):
                self.assertEqual(refusal(self, NoRow, rank_of, machine, text).at, 0)

    def test_drawn(self):
        draw = random.Random(74)
        tried = 0
        for time in range(400):
            machine = drawn_machine(draw)
            texts = [text for text in texts_of("ab", 6) if runs_by(machine, text)]
            if clear(machine)[0] == "alike":
                text = clear(machine)[1]
                self.assertEqual(refusal(self, Unclear, ranked, machine, 0).text, text)
                self.assertEqual(refusal(self, Unclear, rank_of, machine, "ab").text, text)
                continue
            tried += 1
            for number, text in enumerate(texts):
                self.assertEqual(ranked(machine, number), text)
                self.assertEqual(rank_of(machine, text), number)
            if not any(len(text) >= machine.many for text in texts):
                self.assertEqual(refusal(self, TooFar, ranked, machine, len(texts)).many, len(texts))
            for text in texts_of("ab", 3):
                if text not in texts:
                    self.assertEqual(refusal(self, NoRow, rank_of, machine, text).at, far(machine, text) or 0)
        self.assertGreater(tried, 100)


if __name__ == "__main__":
    unittest.main()
