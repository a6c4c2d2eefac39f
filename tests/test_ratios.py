import random
import unittest
from fractions import Fraction

from softchances.ratios import (ascending_by_size, is_below, lowest, minus, opposite, plus, ratio, times, total,
                                weighed)
from tests.tools import frac, pair, pairs


class Ratios(unittest.TestCase):
    def test_by_the_library(self):
        rng = random.Random(71)
        numbers = [Fraction(rng.randint(-9, 9), rng.randint(1, 9)) for _ in range(40)]
        for one in numbers:
            self.assertEqual(opposite(pair(one)), pair(-one))
            for two in numbers:
                self.assertEqual(plus(pair(one), pair(two)), pair(one + two))
                self.assertEqual(minus(pair(one), pair(two)), pair(one - two))
                self.assertEqual(times(pair(one), pair(two)), pair(one * two))
                self.assertIs(is_below(pair(one), pair(two)), one < two)
        self.assertEqual(frac(total(pairs(numbers))), sum(numbers))
        self.assertEqual(frac(weighed((2, -3), pairs(numbers[:2]))), 2 * numbers[0] - 3 * numbers[1])
        self.assertEqual((total([]), weighed((), ())), ((0, 1), (0, 1)))

    def test_lowest_terms(self):
        self.assertEqual([ratio(6, 4), ratio(-6, 4), ratio(0, 7), ratio(5, 5)], [(3, 2), (-3, 2), (0, 1), (1, 1)])
        self.assertEqual([lowest([6, 0, 9]), lowest([5]), lowest([-4, 6])], [[2, 0, 3], [1], [-2, 3]])

    def test_order(self):
        rng = random.Random(72)
        rows = [tuple(Fraction(rng.randint(-5, 5), rng.randint(1, 7)) for _ in range(3)) for _ in range(200)]
        self.assertEqual(ascending_by_size([pairs(row) for row in rows]), tuple(pairs(row) for row in sorted(rows)))
        near = [(Fraction(at, 1000), Fraction(at + 1, 999)) for at in range(50)]
        self.assertEqual(ascending_by_size([pairs(row) for row in near[::-1]]), tuple(pairs(row) for row in near))
        self.assertEqual(ascending_by_size([]), ())


if __name__ == "__main__":
    unittest.main()
