"""The exact reckoning inside: steps, climbs, and the sketches that find a basis for long numbers."""

import random
import unittest
from fractions import Fraction

from tests import reckoning
from toldwithin.climbs import Bounded, climb
from toldwithin.sketches import Sketch, highest, is_longer, sketch_of
from toldwithin.steps import Steps
from toldwithin.sums import dot, is_between, over_one, shared_by, sum_of_products
from toldwithin.ratios import Ratio


def rows_of(dice, many, width, most):
    return [[dice.choice([0, 0, dice.randint(-most, most)]) for _ in range(width)] for _ in range(many)]


def plain_outcome(rows, lows, highs, aim):
    """The highest answer of an aim by going through all independent lots of rows; None if there is no point."""
    lines = [
        (reckoning.fractions(row), Fraction(high - low, 2), Fraction(high + low, 2))
        for row, low, high in zip(rows, lows, highs)
    ]
    for one in lines:
        for middle, reach in reckoning.combined([other for other in lines if other is not one], one[0]):
            if abs(one[2] - middle) > one[1] + reach:
                return None
    return min(middle + reach for middle, reach in reckoning.combined(lines, reckoning.fractions(aim)))


class StepsTest(unittest.TestCase):
    def assertSteps(self, rows, width, unit):
        steps = Steps(rows, list(range(len(rows))), width, unit)
        lines = [reckoning.fractions(row) for row in rows]
        kept = [lines[number] for number in steps.kept]
        self.assertGreater(steps.unit, 0)
        self.assertIsNotNone(reckoning.solution(kept, [Fraction(0)] * width))
        for line, row in zip(lines, rows):
            weights = steps.weights_of(row)
            self.assertEqual([Fraction(weight, steps.unit) for weight in weights], reckoning.solution(kept, line))
            self.assertIsNone(steps.way_out(row))
        answers = [7 * number - 9 for number in steps.kept]
        point = [Fraction(part, steps.unit) for part in steps.point_of(answers)]
        for line, answer in zip(kept, answers):
            self.assertEqual(sum(part * number for part, number in zip(line, point)), answer * unit)
        return steps

    def test_against_fractions(self):
        dice = random.Random(1)
        for _ in range(200):
            width = dice.randint(1, 5)
            self.assertSteps(rows_of(dice, dice.randint(0, 6), width, 9), width, 1)

    def test_rows_in_terms_of_others(self):
        dice = random.Random(2)
        for _ in range(100):
            width = dice.randint(1, 5)
            rows = rows_of(dice, dice.randint(1, 7), width, 9)
            first = self.assertSteps(rows, width, 1)
            terms = [first.weights_of(row) for row in rows]
            dice.shuffle(terms)
            second = self.assertSteps(terms, len(first.kept), first.unit)
            self.assertEqual(len(second.kept), len(first.kept))

    def test_ways_out(self):
        dice = random.Random(3)
        found = 0
        for _ in range(200):
            width = dice.randint(1, 5)
            rows = rows_of(dice, dice.randint(0, 4), width, 9)
            asked = rows_of(dice, 1, width, 9)[0]
            steps = Steps(rows, list(range(len(rows))), width)
            way = steps.way_out(asked)
            self.assertEqual(way is None, steps.weights_of(asked) is not None)
            if way is not None:
                found += 1
                self.assertEqual([dot(row, way) for row in rows], [0] * len(rows))
                self.assertNotEqual(dot(asked, way), 0)
        self.assertGreater(found, 40)

    def test_the_order_tells_what_is_kept(self):
        rows = [[1, 0], [2, 0], [0, 1], [1, 1]]
        for order, kept in [([0, 1, 2, 3], [0, 2]), ([1, 0, 3, 2], [1, 3]), ([3, 2, 1, 0], [3, 2]), ([1, 0], [1])]:
            self.assertEqual(Steps(rows, order, 2).kept, kept)
        self.assertEqual(Steps([], [], 3).kept, [])


class ClimbTest(unittest.TestCase):
    def lots(self, seed, most):
        """Bounded rows with as many independent ones as they are wide, and an aim."""
        dice = random.Random(seed)
        for _ in range(150):
            width = dice.randint(1, 3)
            rows = [[int(at == place) for at in range(width)] for place in range(width)]
            rows += rows_of(dice, dice.randint(0, 3), width, 3)
            lows = [dice.randint(-most, most) for _ in rows]
            highs = [low + dice.choice([0, 0, 1, dice.randint(0, most)]) for low in lows]
            yield Bounded(rows, lows, highs, width, 1), rows_of(dice, 1, width, 3)[0]

    def assertOutcome(self, bounded, aim, outcome, wanted):
        self.assertEqual(outcome.is_clash, wanted is None)
        made = [sum(weight * bounded.rows[number][place] for number, weight in outcome.weights.items())
                for place in range(bounded.width)]
        if outcome.is_clash:
            self.assertEqual(made, [0] * bounded.width)
            ends = [sorted([weight * bounded.lows[number], weight * bounded.highs[number]])
                    for number, weight in outcome.weights.items()]
            self.assertTrue(sum(end[1] for end in ends) < 0 or sum(end[0] for end in ends) > 0)
            return
        self.assertEqual(made, [part * outcome.unit for part in aim])
        for row, low, high in zip(bounded.rows, bounded.lows, bounded.highs):
            self.assertTrue(low * outcome.unit <= dot(row, outcome.point) <= high * outcome.unit)
        self.assertEqual(Fraction(dot(aim, outcome.point), outcome.unit), wanted)

    def test_against_all_lots(self):
        clashes = 0
        for bounded, aim in self.lots(4, 6):
            wanted = plain_outcome(bounded.rows, bounded.lows, bounded.highs, aim)
            clashes += wanted is None
            first = climb(bounded, aim, {})
            self.assertOutcome(bounded, aim, first, wanted)
            # Wherever the search begins, the answer is the same.
            for near in (first.basis, {0: 1}, {len(bounded.rows) - 1: -1}, {number: -1 for number in range(5)}):
                near = {number: side for number, side in near.items() if number < len(bounded.rows)}
                self.assertOutcome(bounded, aim, climb(bounded, aim, near), wanted)
        self.assertTrue(30 < clashes < 120)

    def test_long_numbers(self):
        # Each row and each column multiplied by a number of thousands of bits is the same at bottom.
        dice = random.Random(5)
        for bounded, aim in self.lots(6, 6):
            wanted = plain_outcome(bounded.rows, bounded.lows, bounded.highs, aim)
            unit = dice.getrandbits(3000) + 1
            columns = [dice.getrandbits(2000) + 1 for _ in aim]
            factors = [dice.getrandbits(1000) + 1 for _ in bounded.rows]
            rows = [[part * column * factor * unit for part, column in zip(row, columns)]
                    for row, factor in zip(bounded.rows, factors)]
            lows = [low * factor for low, factor in zip(bounded.lows, factors)]
            highs = [high * factor for high, factor in zip(bounded.highs, factors)]
            long_bounded = Bounded(rows, lows, highs, bounded.width, unit)
            long_aim = [part * column for part, column in zip(aim, columns)]
            outcome = highest(long_bounded, Sketch(long_bounded, [2000] * bounded.width), long_aim, {})
            self.assertEqual(outcome.is_clash, wanted is None)
            if wanted is not None:
                self.assertEqual(Fraction(dot(long_aim, outcome.point), outcome.unit), wanted)

    def test_when_a_sketch_is_made(self):
        short = Bounded([[1 << 511]], [0], [1], 1, 1)
        self.assertFalse(is_longer(short, 256))
        self.assertIsNone(sketch_of(short, [0]))
        self.assertIsInstance(sketch_of(Bounded([[1 << 512]], [0], [1], 1, 1), [0]), Sketch)

    def test_a_sketch_is_nearly_the_same(self):
        dice = random.Random(7)
        rows = [[1 << 9000, 0], [0, 1 << 9000], [dice.getrandbits(9000), -dice.getrandbits(9000)]]
        bounded = Bounded(rows, [-5 << 50, -7 << 50, 0], [5 << 50, 9 << 50, 3 << 50], 2, 1 << 9000)
        short = Sketch(bounded, [0, 0]).shortened(256)
        self.assertFalse(is_longer(short, 128))
        self.assertEqual(short.rows[:2], [[1, 0], [0, 1]])
        for row, low, high, long_row, long_low, long_high in zip(
            short.rows, short.lows, short.highs, rows, bounded.lows, bounded.highs
        ):
            # The bounds are to the numbers of their row as they were, but for a very small part.
            if long_row[1] != 0:
                self.assertLess(abs(Fraction(row[0], row[1]) - Fraction(long_row[0], long_row[1])), Fraction(1, 1 << 200))
            if long_low != 0:
                self.assertLess(abs(Fraction(high, low) - Fraction(long_high, long_low)), Fraction(1, 1 << 200))


class SumTest(unittest.TestCase):
    def test_over_one(self):
        self.assertEqual(over_one([Ratio(1, 2), Ratio(-2, 3), Ratio(5)]), ([3, -4, 30], 6))
        self.assertEqual(over_one([]), ([], 1))

    def test_sum_of_products(self):
        found = sum_of_products([Ratio(1, 2), Ratio(2, 3)], (Ratio(4), Ratio(-3, 4)))
        self.assertEqual(found.text(), "3/2")
        self.assertEqual(sum_of_products([], []).text(), "0")

    def test_is_between(self):
        for top, bottom, wanted in [(1, 2, True), (2, 4, True), (3, 4, True), (49, 100, False), (76, 100, False)]:
            self.assertIs(is_between(top, bottom, Ratio(1, 2), Ratio(3, 4)), wanted)

    def test_shared_by(self):
        for row, wanted in [([6, -9, 0], 3), ([0, 0], 1), ([], 1), ([-4], 4), ([5, 7], 1)]:
            self.assertEqual(shared_by(row), wanted)


if __name__ == "__main__":
    unittest.main()
