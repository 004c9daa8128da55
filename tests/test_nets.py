"""[62], [90]: what Machines and kinds are put together by keeps the runs of each text."""

import random
import unittest
from collections import Counter

from formatwords.fillnets import filled_net
from formatwords.joins import again, then
from formatwords.kindlooks import filled
from formatwords.machines import runs
from formatwords.nets import as_machine, as_net
from formatwords.settling import determined, settled
from formatwords.spans import all_numbers, magnitudes, parted_spans, shortened
from tests.helper import drawn_machine, runs_by, texts_of
from tests.test_joins import parted

TEXTS = texts_of("ab", 4)


class TestNets(unittest.TestCase):
    def test_then_and_again(self):
        draw = random.Random(61)
        for time in range(80):
            machines = [drawn_machine(draw, most=3) for count in range(draw.randint(1, 4))]
            joined = then(machines)
            between = draw.choice(["", "a", "ab"])
            least = draw.randint(0, 2)
            most = least + draw.randint(0, 2)
            several = again(machines[0], between, least=least, most=most)
            for text in TEXTS:
                self.assertEqual(runs(joined, text), parted(machines, text))
                told = sum(parted([machines[0]] * many, text, between) for many in range(least, most + 1))
                self.assertEqual(runs(several, text), told)

    def test_settled(self):
        draw = random.Random(62)
        for time in range(150):
            machine = drawn_machine(draw, most=6)
            small = as_machine(settled(as_net(machine)))
            for text in TEXTS:
                self.assertEqual(runs(small, text), runs_by(machine, text))

    def test_one_way_for_each_text(self):
        draw = random.Random(63)
        found = Counter()
        for time in range(300):
            machine = drawn_machine(draw, most=4)
            net = settled(as_net(machine))
            sure = determined(net)
            found[sure is None] += 1
            if sure is not None:
                self.assertLessEqual(len(sure.begins), 1)
                for row in sure.rows:
                    self.assertEqual(sum(mask for mask, target in row).bit_count(),
                                     sum(mask.bit_count() for mask, target in row))
            else:
                self.assertTrue(any(runs_by(machine, text) > 1 for text in texts_of("ab", 6)))
        self.assertGreater(min(found.values()), 20)

    def test_filled(self):
        draw = random.Random(64)
        for time in range(60):
            machine = drawn_machine(draw, most=5)
            width, side, fill = draw.randint(0, 4), draw.choice(["left", "right", "middle"]), draw.choice("abc")
            counts = Counter()
            for text in texts_of("ab", 4):
                counts[filled(text, width, fill, side)] += runs_by(machine, text)
            told = as_machine(settled(filled_net(as_net(machine), width, fill, side)))
            for text in texts_of("abc", 4):
                self.assertEqual(runs(told, text), counts[text])


class TestSpans(unittest.TestCase):
    def numbers(self, spans, modulus):
        """The numbers from -20 to 20 of these spans, each as often as it is in one."""
        return [number for number in range(-20, 21) for low, high, mask in spans
                if (low is None or low <= number) and (high is None or number <= high) and mask >> number % modulus & 1]

    def test_parted(self):
        draw = random.Random(65)
        for time in range(200):
            modulus = draw.choice([1, 2, 6, 12])
            free, left = all_numbers(modulus), list(range(-20, 21))
            for count in range(4):
                low, high = sorted([draw.randint(-9, 9), draw.randint(-9, 9)])
                span = draw.choice([low, None]), draw.choice([high, None]), draw.randrange(1, 1 << modulus)
                taken, free = parted_spans(free, *span)
                inside = self.numbers([span], modulus)
                self.assertEqual(sorted(self.numbers(taken, modulus)), [number for number in left if number in inside])
                left = [number for number in left if number not in inside]
                self.assertEqual(sorted(self.numbers(free, modulus)), left)
            below = self.numbers(magnitudes(free, True, modulus), modulus)
            self.assertEqual(sorted(below), sorted(-number for number in left if number < 0))
            self.assertEqual(sorted(self.numbers(magnitudes(free, False, modulus), modulus)),
                             [number for number in left if number >= 0])

    def test_shortened(self):
        for modulus in (1, 2, 3, 4, 6, 12):
            for mask in range(1, 1 << min(modulus, 8)):
                first, period = shortened(mask, modulus)
                self.assertEqual(self.numbers([(None, None, mask)], modulus), self.numbers([(None, None, first)], period))
        self.assertEqual([shortened(0b111111, 6), shortened(0b010101, 6), shortened(0b001001, 6), shortened(0b1, 6)],
                         [(1, 1), (1, 2), (1, 3), (1, 6)])


if __name__ == "__main__":
    unittest.main()
