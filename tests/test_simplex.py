import itertools
import unittest

from softchances.simplex import first_held, first_lines, least_end, least_place


class LeastPlace(unittest.TestCase):
    def test_the_first_of_several(self):
        for many in range(1, 6):
            for payoff in itertools.product(range(-1, 2), repeat=many):
                self.assertEqual(least_place(payoff), payoff.index(min(payoff)), payoff)

    def test_where_the_lines_begin(self):
        # The gap at the first least number is held by no line at first.
        self.assertEqual(first_held(2, (4, -1, 3, -1)), [-1, 2, 4, 5])
        self.assertEqual(first_held(0, (0, 0, 0)), [-1, 1, 2])
        self.assertEqual(first_lines([(5, 7, 9)], (2, 1, 1)), [[7, 0, 1, 0, 1], [-2, 1, -1, 0, 1], [2, 0, -1, 1, 0]])

    def test_the_chance_found(self):
        self.assertEqual(least_end([], (2, 1, 1)), ((1, 1), ((0, 1), (1, 1), (0, 1)), ()))
        self.assertEqual(least_end([], (0, 0)), ((0, 1), ((1, 1), (0, 1)), ()))


if __name__ == "__main__":
    unittest.main()
