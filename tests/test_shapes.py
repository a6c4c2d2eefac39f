import random
import unittest
from fractions import Fraction

from softchances.bounds import gathers, is_tight_bounds
from softchances.errors import InvalidChance, InvalidFraction, InvalidRanges, NotSound
from softchances.masses import masses_of
from softchances.shapes import beginning_bounds, near_bounds, range_bounds, stirred_bounds
from tests.test_book_functions import NO_CHANCES
from tests.tools import (NO_SHARES, ODD_VALUES, Told, corners_of_limits, frac, fracs, given, indexed, is_chance,
                         lots_of, pair, pairs, random_chance)

ZERO, ONE = (0, 1), (1, 1)
FREE = (ZERO, ONE)
PLAIN = ((1, 2), (1, 4), (1, 4))
# Where another number of shares than 3 is wrong for some functions, it is not for these.
NO_SHORT_CHANCES = tuple((value, index) for value, index in NO_CHANCES
                         if value not in (((1, 2), (1, 2)), PLAIN + ((0, 1),))) + (
    ((ONE,), None), ((ZERO,), None), ((ONE,) + (ZERO,) * 5, None), ((None,) * 6, None), (((1, 7),) * 7, None))

# Each of these is no pair of shares that may be passed, low at most high.
NO_PAIRS = (None, True, 0, "ab", b"ab", (), (ZERO,), (ZERO, ONE, ONE), [ZERO, ONE], {}, (0, 1), (1, 2), (None, ONE),
            (ZERO, None), ([0, 1], ONE), (ZERO, [1, 1]), (ZERO, (2, 2)), ((0, 2), ONE), ((2, 4), ONE), (ONE, ZERO),
            ((1, 2), (1, 3)), ((1, 2), (2, 5)), ((2, 5), (1, 3)), ((500001, 10 ** 6), (1, 2)), ((-1, 2), ONE),
            (ZERO, (3, 2)), (ZERO, (2, 1)), ((True, 2), ONE), (ZERO, (True, 1)), ((1, 10 ** 6 + 1), ONE),
            (ZERO, (1, 10 ** 6 + 1)), (ZERO, (1, 0)), ("0", "1"), (ZERO, ONE, None))


def no_pairs(least, most):
    """Values that are no such pairs, least to most of them, with the index that is told."""
    rows = [(value, None) for value in ODD_VALUES]
    rows += [((FREE,) * many, None) for many in range(least)] + [((FREE,) * many, None) for many in (most + 1, 9)]
    rows += [((None,) * many, None) for many in (most + 1, 7)] + [([FREE] * most, None)]
    for wrong in NO_PAIRS:
        rows += [((FREE,) * at + (wrong,) + (FREE,) * (least - 1), at) for at in range(most - least + 1)]
        rows += [((FREE,) * (most - 2) + (wrong, None), most - 2)]
    return tuple(rows)


def unit(at, outcomes):
    """The payoff that is 1 at one outcome."""
    return tuple(int(place == at) for place in range(outcomes))


def on(lot, outcomes):
    """The payoff that is 1 on the lot."""
    return tuple(int(place in lot) for place in range(outcomes))


def both_limits(payoff, low, high):
    """That the payoff is worth at least the one and at most the other share."""
    return [(payoff, frac(low)), (tuple(-number for number in payoff), -frac(high))]


def range_limits(ranges):
    """What the chances that keep the ranges are bound to."""
    return [limit for at, (low, high) in enumerate(ranges) for limit in both_limits(unit(at, len(ranges)), low, high)]


def beginning_limits(beginnings):
    """What the chances that keep the beginnings are bound to."""
    outcomes = len(beginnings) + 1
    return [limit for at, (low, high) in enumerate(beginnings)
            for limit in both_limits(on(range(at + 1), outcomes), low, high)]


def least_by_corners(corners, outcomes):
    """The least chances of all lots at the corners."""
    return pairs(min(sum((corner[at] for at in lot), Fraction(0)) for corner in corners) for lot in lots_of(outcomes))


def random_pair(rng, bottom, middle):
    """A pair of shares around a number, if it is not near an end."""
    low = max(0, middle - rng.randint(0, 3))
    high = min(bottom, middle + rng.randint(0, 3))
    return pair(Fraction(min(low, bottom), bottom)), pair(Fraction(max(high, min(low, bottom)), bottom))


def random_ranges(rng, outcomes, bottom=12):
    """Ranges, some of which no chance keeps."""
    chance, off = random_chance(rng, outcomes), rng.choice((0, 0, 0, 2, -2, 5, -5))
    return tuple(random_pair(rng, bottom, min(max(round(number * bottom) + off, 0), bottom)) for number in chance)


def random_beginnings(rng, outcomes, bottom=12):
    """Beginnings, some of which no chance keeps."""
    numbers = [rng.randint(0, bottom) for _ in range(outcomes - 1)]
    if rng.randint(0, 2):
        numbers = sorted(numbers)
    return tuple(random_pair(rng, bottom, number) for number in numbers)


class ByHand(Told, unittest.TestCase):
    def test_ranges(self):
        self.check_both_ways((ZERO, (1, 3), (1, 4), (7, 12), (1, 12), (7, 12), (1, 2), ONE), range_bounds, "ranges",
                             (((1, 3), (1, 2)), ((1, 4), (5, 12)), FREE))
        self.check_both_ways((ZERO, ZERO, ZERO, ONE), range_bounds, "ranges", (FREE, FREE))
        self.check_both_ways((ZERO, (1, 3), (2, 3), ONE), range_bounds, "ranges", (((1, 3), (1, 3)), FREE))
        self.check_both_ways((ZERO, (1, 2), (1, 2), ONE), range_bounds, "ranges", (((1, 2), ONE), ((1, 2), ONE)))
        self.check_both_ways((ZERO,) * 31 + (ONE,), range_bounds, "ranges", (FREE,) * 5)
        most = 10 ** 6
        self.check_both_ways((ZERO, (1, most), (1, most), ONE), range_bounds, "ranges",
                             (((1, most), ONE), ((1, most), (999999, most))))

    def test_no_chance_keeps_ranges(self):
        for ranges in ((((0, 1), (1, 3)),) * 2, (((2, 3), ONE), ((1, 2), ONE)), (((1, 2), (1, 2)),) * 3,
                       (((1, 4), ONE),) * 5, (((0, 1), (199999, 10 ** 6)),) * 5, (((200001, 10 ** 6), ONE),) * 5):
            self.check_error_both_ways(NotSound, {}, range_bounds, "ranges", ranges)
        for ranges in ((((1, 5), (1, 5)),) * 5, (((0, 1), (1, 5)),) * 5, (((1, 5), (1, 1)),) * 5):
            self.assertEqual(range_bounds(ranges)[7], (3, 5))

    def test_beginnings(self):
        self.check_both_ways((ZERO, (1, 4), ZERO, (1, 2), (1, 4), (1, 2), (1, 2), ONE), beginning_bounds, "beginnings",
                             (((1, 4), (1, 2)), ((1, 2), (3, 4))))
        self.check_both_ways((ZERO, (1, 3), (1, 4), ONE), beginning_bounds, "beginnings", (((1, 3), (3, 4)),))
        self.check_both_ways((ZERO,) * 31 + (ONE,), beginning_bounds, "beginnings", (FREE,) * 4)
        # A later beginning may be bound by an earlier one, and the other way around.
        self.check_both_ways((ZERO, (1, 2), ZERO, (1, 2), ZERO, (1, 2), ZERO, ONE), beginning_bounds, "beginnings",
                             (((1, 2), ONE), FREE))
        self.check_both_ways((ZERO, ZERO, ZERO, ZERO, (1, 2), (1, 2), (1, 2), ONE), beginning_bounds, "beginnings",
                             (FREE, (ZERO, (1, 2))))

    def test_no_chance_keeps_beginnings(self):
        for beginnings in ((((1, 2), ONE), (ZERO, (1, 3))), (((2, 3), ONE), FREE, FREE, (ZERO, (1, 2))),
                           (FREE, (ONE, ONE), (ZERO, (999999, 10 ** 6)))):
            self.check_error_both_ways(NotSound, {}, beginning_bounds, "beginnings", beginnings)
        self.check_both_ways((ZERO, (1, 2), ZERO, (1, 2), (1, 2), ONE, (1, 2), ONE), beginning_bounds, "beginnings",
                             (((1, 2), ONE), (ZERO, (1, 2))))

    def test_stirred(self):
        self.check_both_ways((ZERO, (1, 3), (1, 6), (1, 2), (1, 6), (1, 2), (1, 3), ONE), stirred_bounds,
                             "chance share", PLAIN, (1, 3))
        self.check_both_ways((ZERO, (1, 2), (1, 4), (3, 4), (1, 4), (3, 4), (1, 2), ONE), stirred_bounds,
                             "chance share", PLAIN, ZERO)
        self.check_both_ways((ZERO,) * 7 + (ONE,), stirred_bounds, "chance share", PLAIN, ONE)
        # Lots with the chance 1 lose, too, unless they have all outcomes.
        self.check_both_ways((ZERO, (1, 2), ZERO, ONE), stirred_bounds, "chance share", (ONE, ZERO), (1, 2))

    def test_near(self):
        self.check_both_ways((ZERO, (1, 4), ZERO, (1, 2), ZERO, (1, 2), (1, 4), ONE), near_bounds, "chance share",
                             PLAIN, (1, 4))
        self.check_both_ways((ZERO, (1, 2), (1, 4), (3, 4), (1, 4), (3, 4), (1, 2), ONE), near_bounds, "chance share",
                             PLAIN, ZERO)
        self.check_both_ways((ZERO,) * 7 + (ONE,), near_bounds, "chance share", PLAIN, ONE)
        self.check_both_ways((ZERO, (1, 2), ZERO, ONE), near_bounds, "chance share", (ONE, ZERO), (1, 2))
        self.check_both_ways((ZERO, ZERO, ZERO, (1, 6), ZERO, ZERO, ZERO, ONE), near_bounds, "chance share",
                             ((1, 3), (1, 2), (1, 6)), (2, 3))


class ByCorners(Told, unittest.TestCase):
    def check_within(self, call, limits, outcomes, given_pairs):
        """The bounds are those of the corners that are found here."""
        corners = corners_of_limits(outcomes, limits)
        if not corners:
            self.check_error(NotSound, {}, call, given_pairs)
            return False
        self.assertEqual(call(given_pairs), least_by_corners(corners, outcomes))
        return True

    def test_ranges(self):
        rng = random.Random(71)
        found = [0, 0]
        for outcomes, many in ((2, 25), (3, 25), (4, 12), (5, 2)):
            for _ in range(many):
                ranges = random_ranges(rng, outcomes, rng.choice((5, 12, 1000)))
                found[self.check_within(range_bounds, range_limits(ranges), outcomes, ranges)] += 1
        self.assertGreater(min(found), 8)

    def test_ranges_by_sums(self):
        # What is left when all other outcomes have as much as they may.
        rng = random.Random(72)
        for _ in range(150):
            outcomes = rng.randint(2, 5)
            ranges = random_ranges(rng, outcomes, rng.choice((12, 60, 10 ** 6)))
            low, high = [frac(one) for one, _ in ranges], [frac(two) for _, two in ranges]
            if sum(low) > 1 or sum(high) < 1:
                self.check_error(NotSound, {}, range_bounds, ranges)
                continue
            by_hand = [max(sum((low[at] for at in lot), Fraction(0)),
                           1 - sum((high[at] for at in range(outcomes) if at not in lot), Fraction(0)))
                       for lot in lots_of(outcomes)]
            self.assertEqual(fracs(range_bounds(ranges)), tuple(by_hand))
            self.assertTrue(gathers(range_bounds(ranges)))

    def test_beginnings(self):
        rng = random.Random(73)
        found = [0, 0]
        for outcomes, many in ((2, 15), (3, 30), (4, 30), (5, 4)):
            for _ in range(many):
                beginnings = random_beginnings(rng, outcomes, rng.choice((5, 12, 1000)))
                found[self.check_within(beginning_bounds, beginning_limits(beginnings), outcomes, beginnings)] += 1
        self.assertGreater(min(found), 5)

    def test_beginnings_come_of_masses(self):
        rng = random.Random(74)
        for _ in range(60):
            outcomes = rng.randint(2, 5)
            found = random_beginnings(rng, outcomes, 60)
            low, high = sorted(frac(one) for one, _ in found), sorted(frac(two) for _, two in found)
            beginnings = tuple(zip(pairs(low), pairs(high)))
            self.assertIsNotNone(masses_of(beginning_bounds(beginnings)))

    def test_stirred(self):
        rng = random.Random(75)
        for outcomes in (2, 3, 4, 5):
            for share in (Fraction(0), Fraction(1), Fraction(1, 3), Fraction(rng.randint(0, 30), 30)):
                chance = random_chance(rng, outcomes)
                corners = [tuple((1 - share) * number + share * (place == at) for place, number in enumerate(chance))
                           for at in range(outcomes)]
                told = stirred_bounds(pairs(chance), pair(share))
                self.assertEqual(told, least_by_corners(corners, outcomes))
                self.assertIsNotNone(masses_of(told))

    def test_near_by_corners(self):
        rng = random.Random(76)
        for outcomes, many in ((2, 8), (3, 8), (4, 3)):
            for share in [Fraction(0), Fraction(1)] + [Fraction(rng.randint(1, 11), 12) for _ in range(many)]:
                chance = random_chance(rng, outcomes)
                limits = [(on(lot, outcomes), sum((chance[at] for at in lot), Fraction(0)) - share)
                          for lot in lots_of(outcomes)]
                told = near_bounds(pairs(chance), pair(share))
                self.assertEqual(told, least_by_corners(corners_of_limits(outcomes, limits), outcomes))
                self.assertTrue(is_tight_bounds(told))

    def test_near_is_reached(self):
        rng = random.Random(77)
        for _ in range(60):
            outcomes = rng.randint(2, 5)
            chance, share = random_chance(rng, outcomes, 3), Fraction(rng.randint(0, 12), 12)
            told = fracs(near_bounds(pairs(chance), pair(share)))
            for lot, least in zip(lots_of(outcomes)[:-1], told):
                moved, left = list(chance), share
                outside = next(at for at in range(outcomes) if at not in lot)
                for at in lot:
                    step = min(left, moved[at])
                    moved[at], moved[outside], left = moved[at] - step, moved[outside] + step, left - step
                self.assertTrue(is_chance(moved, outcomes))
                for other in lots_of(outcomes):
                    self.assertLessEqual(sum(chance[at] - moved[at] for at in other), share)
                self.assertEqual(sum((moved[at] for at in lot), Fraction(0)), least)
                self.assertEqual(least, max(0, sum((chance[at] for at in lot), Fraction(0)) - share))
            self.assertEqual(told[-1], 1)


class Errors(Told, unittest.TestCase):
    def test_wrong_ranges(self):
        self.check_first_errors(range_bounds, "ranges", (None,), (indexed(InvalidRanges, no_pairs(2, 5)),))

    def test_wrong_beginnings(self):
        self.check_first_errors(beginning_bounds, "beginnings", (None,), (indexed(InvalidRanges, no_pairs(1, 4)),))

    def test_not_sound_last(self):
        high = ((2, 3), ONE)
        self.check_error(InvalidRanges, {"index": 2}, range_bounds, (high, high, None))
        self.check_error(InvalidRanges, {"index": 3}, beginning_bounds, (high, (ZERO, ZERO), FREE, (ONE, ZERO)))
        self.check_error(InvalidRanges, {"index": None}, range_bounds, (high,) * 6)
        self.check_error(NotSound, {}, range_bounds, (high, high, FREE))

    def test_numbers_of_pairs(self):
        for many in (2, 3, 4, 5):
            self.assertEqual(len(range_bounds((FREE,) * many)), 2 ** many)
            self.assertEqual(len(beginning_bounds((FREE,) * (many - 1))), 2 ** many)

    def test_chance_and_share(self):
        wrong = indexed(InvalidChance, NO_SHORT_CHANCES), given(InvalidFraction, NO_SHARES)
        for call in (stirred_bounds, near_bounds):
            self.check_first_errors(call, "chance share", (PLAIN, (1, 3)), wrong)

    def test_right_chances(self):
        most = 10 ** 6
        for call in (stirred_bounds, near_bounds):
            for many in (2, 3, 4, 5):
                self.assertEqual(call(((1, many),) * many, ZERO)[1], (1, many))
            self.assertEqual(len(call(((1, most), (999999, most)), (1, most))), 4)
        self.assertEqual(near_bounds(((1, most), (999999, most)), (1, most))[1:3], (ZERO, (499999, 500000)))
        self.assertEqual(stirred_bounds(((1, most), (999999, most)), (1, most))[1], (999999, most * most))


if __name__ == "__main__":
    unittest.main()
