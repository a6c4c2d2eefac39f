import random
import unittest
from fractions import Fraction

from softchances.bounds import (book_of, gathers, is_tight_bounds, level_worth, numbers_of, order_chances)
from softchances.corners import corners
from softchances.errors import (InvalidBounds, InvalidFraction, InvalidLot, InvalidMasses, InvalidNumber,
                                InvalidPayoff, TotalClash)
from softchances.masses import (belief, beliefs, clash, masses_behind, masses_of, put_together, room, sure_worth,
                                weakened)
from softchances.worths import least_worth
from tests.test_bounds import LOOSE, LOW, NO_BOUNDS, examples, numbers_by_hand
from tests.tools import (NO_SHARES, ODD_VALUES, Told, frac, fracs, given, indexed, lots_of, no_lots, no_payoffs, pair,
                         pairs, random_payoff)

ZERO, ONE = (0, 1), (1, 1)
SOME = (((0,), (1, 2)), ((0, 1), (1, 4)), ((0, 1, 2), (1, 4)))
NEWS = (((0, 1, 2), (1, 2)), ((1,), (1, 2)))
ALL = (((0, 1, 2), ONE),)
NO_OUTCOMES = (None, True, False, 0, 1, 6, -2, 10 ** 70, "3", b"3", (3,), [3], {}, ())

# Each of these is no masses for three outcomes, with the index that is told.
NO_MASSES = (
    ((), None), (list(SOME), None), (SOME[:2], None), (SOME[1:], None), ((((0,), (999999, 10 ** 6)),), None),
    (((0,), ONE), 0), ((None, SOME[1]), 0), (([(0,), ONE],), 0), ((((0,), ONE, ONE),), 0), ((((0,),),), 0), (((),), 0),
    ((((), ONE),), 0), ((((), ZERO), ((0,), ONE)), 0), ((([0], ONE),), 0), ((((3,), ONE),), 0), ((((-1,), ONE),), 0),
    ((((1, 0), ONE),), 0), ((((0, 0), ONE),), 0), ((((True,), ONE),), 0), (((0, ONE),), 0), ((("0", ONE),), 0),
    ((((0,), ZERO), ((1,), ONE)), 0), ((((0,), 1),), 0), ((((0,), (2, 2)),), 0), ((((0,), (3, 2)),), 0),
    ((((0,), (-1, 2)), ((1,), ONE)), 0), ((((0,), [1, 1]),), 0), ((((0,), (1, True)),), 0), ((((0,), True),), 0),
    ((((0,), (1, 10 ** 6 + 1)), ((1,), (10 ** 6, 10 ** 6 + 1))), 0), ((((0,), None), None), 0),
    ((((0,), (1, 2)), ((0,), (1, 2))), 1), ((((1,), (1, 2)), ((0,), (1, 2))), 1),
    ((((0, 1), (1, 2)), ((0,), (1, 2))), 1), ((((1,), (1, 2)), ((0, 1), (1, 2))), 1),
    ((((0,), (1, 2)), ((1,), (2, 3))), 1), ((((0,), (1, 2)), ((1,), (500001, 10 ** 6))), 1),
    ((((0,), ONE), ((1,), (1, 10 ** 6))), 1), ((((0,), ONE), ((1,), ZERO)), 1), ((((0,), ONE), None), 1),
    ((((0,), (1, 2)), ((1,), (2, 4))), 1), ((((0,), (2, 3)), ((0, 1), (2, 3)), None), 1),
    (SOME[:2] + (((0, 1, 3), (1, 4)),), 2), (SOME[:2] + (((0, 1), (1, 4)),), 2), (SOME + (((1,), (1, 9)),), 3),
    (SOME + SOME, 3), (SOME[:2] + (None,), 2)) + tuple((value, None) for value in ODD_VALUES)


def random_masses(rng, outcomes, most=4, seldom=1):
    """Masses for so many outcomes; only few lots have one if `seldom` is great."""
    lots = lots_of(outcomes)[1:]
    numbers = {lot: rng.randint(1, most) for lot in lots if rng.randint(0, seldom) == 0}
    numbers = numbers or {rng.choice(lots): 1}
    whole = sum(numbers.values())
    return tuple(sorted((lot, pair(Fraction(number, whole))) for lot, number in numbers.items()))


def plain(masses):
    """The dict of sets of outcomes with plain numbers."""
    return {frozenset(lot): frac(number) for lot, number in masses}


def as_pairs(numbers):
    """The masses of a dict of sets with plain numbers, those that are 0 left out."""
    return tuple(sorted((tuple(sorted(lot)), pair(number)) for lot, number in numbers.items() if number))


def sum_if(masses, test):
    """The sum of the numbers of the sets that pass the test."""
    return sum((number for lot, number in plain(masses).items() if test(lot)), Fraction(0))


def products_by_hand(masses, others):
    """The sums of the products for all sets of what two sets share."""
    sums = {}
    for one, number in plain(masses).items():
        for two, other in plain(others).items():
            sums[one & two] = sums.get(one & two, Fraction(0)) + number * other
    return sums


def put_by_hand(masses, others):
    """What is put together, None if the clash is 1."""
    sums = products_by_hand(masses, others)
    left = 1 - sums.pop(frozenset(), Fraction(0))
    return as_pairs({lot: number / left for lot, number in sums.items()}) if left else None


def can_be_passed(masses):
    """Whether no bottom is too great."""
    return masses is not None and all(bottom <= 10 ** 6 for _, (_, bottom) in masses)


def many_masses(seed, each=6):
    """Pairs of a number of outcomes and masses for so many."""
    rng = random.Random(seed)
    for outcomes in (2, 3, 4, 5):
        everything = tuple(range(outcomes))
        yield outcomes, ((everything, ONE),)
        yield outcomes, (((outcomes - 1,), ONE),)
        yield outcomes, tuple(((at,), (1, outcomes)) for at in everything)
        lots = sorted(lots_of(outcomes)[1:])
        yield outcomes, tuple((lot, (1, len(lots))) for lot in lots)
        for _ in range(each):
            yield outcomes, random_masses(rng, outcomes, seldom=rng.choice((0, 1, 3, 5)))


class ByHand(Told, unittest.TestCase):
    def test_masses_of(self):
        self.check_both_ways((((0,), (1, 3)), ((0, 1, 2), (1, 6)), ((1,), (1, 4)), ((2,), (1, 4))), masses_of,
                             "bounds", LOW)
        self.check_both_ways(None, masses_of, "bounds", LOOSE)
        self.check_both_ways((((0, 1), ONE),), masses_of, "bounds", (ZERO, ZERO, ZERO, ONE))
        self.check_both_ways((((0,), (333333, 10 ** 6)), ((1,), (666667, 10 ** 6))), masses_of, "bounds",
                             (ZERO, (333333, 10 ** 6), (666667, 10 ** 6), ONE))
        self.check_both_ways((((0, 1, 2, 3, 4), ONE),), masses_of, "bounds", (ZERO,) * 31 + (ONE,))
        # The numbers 1/2, 1/2, 1/2 and -1/2: bounds that gather and come of no masses.
        self.check_both_ways(None, masses_of, "bounds", (ZERO, ZERO, ZERO, (1, 2), ZERO, (1, 2), (1, 2), ONE))

    def test_beliefs(self):
        self.check_both_ways((ZERO, (1, 2), ZERO, (3, 4), ZERO, (1, 2), ZERO, ONE), beliefs, "outcomes masses", 3, SOME)
        self.check_both_ways((ZERO, ZERO, (1, 2), (1, 2), ZERO, ZERO, (1, 2), ONE), beliefs, "outcomes masses", 3, NEWS)

    def test_belief_and_room(self):
        for lot, low, high in (((), ZERO, ZERO), ((0,), (1, 2), ONE), ((1,), ZERO, (1, 2)), ((2,), ZERO, (1, 4)),
                               ((0, 1), (3, 4), ONE), ((1, 2), ZERO, (1, 2)), ((0, 1, 2), ONE, ONE)):
            self.check_both_ways(low, belief, "outcomes masses lot", 3, SOME, lot)
            self.check_both_ways(high, room, "outcomes masses lot", 3, SOME, lot)

    def test_sure_worth(self):
        self.check_both_ways((5, 2), sure_worth, "outcomes masses payoff", 3, SOME, (4, 2, 0))
        self.check_both_ways((1, 1), sure_worth, "outcomes masses payoff", 3, NEWS, (2, 3, -1))
        self.check_both_ways((-1000, 1), sure_worth, "outcomes masses payoff", 3, ALL, (1000, -1000, 0))

    def test_two_masses(self):
        self.check_both_ways((1, 4), clash, "outcomes masses others", 3, SOME, NEWS)
        self.check_both_ways(ZERO, clash, "outcomes masses others", 3, SOME, ALL)
        self.check_both_ways((((0,), (1, 3)), ((0, 1), (1, 6)), ((0, 1, 2), (1, 6)), ((1,), (1, 3))), put_together,
                             "outcomes masses others", 3, SOME, NEWS)

    def test_weakened(self):
        self.check_both_ways((((0,), (1, 4)), ((0, 1), (1, 8)), ((0, 1, 2), (5, 8))), weakened,
                             "outcomes masses share", 3, SOME, (1, 2))
        self.check_both_ways((((0,), (1, 2)), ((0, 1, 2), (1, 2))), weakened, "outcomes masses share", 3,
                             (((0,), ONE),), (1, 2))
        self.check_both_ways((((0,), (1, 10 ** 6)), ((0, 1), (999999, 10 ** 6))), weakened, "outcomes masses share", 2,
                             (((0,), ONE),), (999999, 10 ** 6))

    def test_masses_behind(self):
        self.check_both_ways((((1,), (1, 2)), ((1, 2), (1, 2))), masses_behind, "outcomes masses lot", 3, SOME, (1, 2))
        self.check_both_ways((((2,), ONE),), masses_behind, "outcomes masses lot", 3, SOME, (2,))
        self.check_both_ways(SOME, masses_behind, "outcomes masses lot", 3, SOME, (0, 1, 2))


class Sums(Told, unittest.TestCase):
    def test_there_and_back(self):
        for outcomes, masses in many_masses(51, each=12):
            told = beliefs(outcomes, masses)
            self.assertEqual(fracs(told), tuple(sum_if(masses, set(lot).issuperset) for lot in lots_of(outcomes)))
            self.assertEqual(masses_of(told), masses)
            numbers = dict(zip(lots_of(outcomes), numbers_of(told)))
            self.assertEqual(tuple(sorted((lot, number) for lot, number in numbers.items() if number != ZERO)), masses)

    def test_bounds_there_and_back(self):
        found = {True: 0, False: 0}
        for bounds in examples(52):
            numbers = numbers_by_hand(bounds)
            self.assertEqual(fracs(numbers_of(bounds)), tuple(numbers))
            masses = masses_of(bounds)
            self.assertIs(masses is None, min(numbers) < 0)
            found[masses is None] += 1
            if masses is not None:
                lots = lots_of(len(bounds).bit_length() - 1)
                self.assertEqual(masses, tuple(sorted((lot, pair(number)) for lot, number in zip(lots, numbers)
                                                      if number)))
                if can_be_passed(masses):
                    self.assertEqual(beliefs(len(lots[-1]), masses), bounds)
        self.assertGreater(min(found.values()), 20)

    def test_numbers_of_a_mix(self):
        rng = random.Random(53)
        listed = list(examples(53))
        many = 0
        for one in listed:
            two = rng.choice([bounds for bounds in listed if len(bounds) == len(one)])
            share = Fraction(rng.randint(0, 5), 5)
            mixed = pairs((1 - share) * frac(low) + share * frac(other) for low, other in zip(one, two))
            if max(bottom for _, bottom in mixed) > 10 ** 6:
                continue
            many += 1
            by_parts = [(1 - share) * frac(low) + share * frac(other)
                        for low, other in zip(numbers_of(one), numbers_of(two))]
            self.assertEqual(fracs(numbers_of(mixed)), tuple(by_parts))
            self.assertIs(masses_of(mixed) is None, min(by_parts) < 0)
            if masses_of(one) is not None and masses_of(two) is not None:
                self.assertIsNotNone(masses_of(mixed))
        self.assertGreater(many, 60)

    def test_belief_and_room(self):
        for outcomes, masses in many_masses(54):
            told = beliefs(outcomes, masses)
            for place, lot in enumerate(lots_of(outcomes)):
                rest = tuple(at for at in range(outcomes) if at not in lot)
                self.assertEqual(belief(outcomes, masses, lot), told[place])
                self.assertEqual(belief(outcomes, masses, lot), pair(sum_if(masses, set(lot).issuperset)))
                self.assertEqual(room(outcomes, masses, lot), pair(sum_if(masses, set(lot).intersection)))
                self.assertEqual(frac(room(outcomes, masses, lot)), 1 - frac(belief(outcomes, masses, rest)))

    def test_sure_worth(self):
        rng = random.Random(55)
        for outcomes, masses in many_masses(55):
            for most in (1, 3, 1000):
                payoff = random_payoff(rng, outcomes, most)
                by_hand = sum((number * min(payoff[at] for at in lot) for lot, number in plain(masses).items()),
                              Fraction(0))
                self.assertEqual(sure_worth(outcomes, masses, payoff), pair(by_hand))
                self.assertEqual(level_worth(beliefs(outcomes, masses), payoff), pair(by_hand))
                self.assertEqual(least_worth(book_of(beliefs(outcomes, masses)), payoff), pair(by_hand))

    def test_beliefs_gather(self):
        for outcomes, masses in many_masses(56, each=3):
            told = beliefs(outcomes, masses)
            self.assertTrue(gathers(told))
            self.assertTrue(is_tight_bounds(told))
            if outcomes < 5 or len(masses) < 12:
                self.assertEqual(order_chances(told), corners(book_of(told)))


class Together(Told, unittest.TestCase):
    def test_own_sums(self):
        rng = random.Random(61)
        clashes = set()
        for outcomes, masses in many_masses(61, each=15):
            for seldom in (0, 2, 6):
                others = random_masses(rng, outcomes, seldom=seldom)
                lost = products_by_hand(masses, others).get(frozenset(), Fraction(0))
                clashes.add(lost)
                self.assertEqual(clash(outcomes, masses, others), pair(lost))
                self.assertEqual(clash(outcomes, others, masses), pair(lost))
                if lost == 1:
                    self.check_error(TotalClash, {}, put_together, outcomes, masses, others)
                    self.check_error(TotalClash, {}, put_together, outcomes, others, masses)
                else:
                    self.assertEqual(put_together(outcomes, masses, others), put_by_hand(masses, others))
                    self.assertEqual(put_together(outcomes, others, masses), put_by_hand(masses, others))
        self.assertTrue({0, 1} < clashes and len(clashes) > 20)

    def test_either_grouping(self):
        rng = random.Random(62)
        many = 0
        for _ in range(150):
            outcomes = rng.randint(2, 5)
            one, two, three = (random_masses(rng, outcomes, 2, rng.choice((2, 4, 8))) for _ in range(3))
            left, right = put_by_hand(one, two), put_by_hand(two, three)
            if not can_be_passed(left) or not can_be_passed(right):
                continue
            if clash(outcomes, left, three) == ONE:
                self.assertEqual(clash(outcomes, one, right), ONE)
                continue
            many += 1
            self.assertEqual(put_together(outcomes, put_together(outcomes, one, two), three),
                             put_together(outcomes, one, put_together(outcomes, two, three)))
        self.assertGreater(many, 60)

    def test_with_the_lot_of_all(self):
        for outcomes, masses in many_masses(63):
            alone = ((tuple(range(outcomes)), ONE),)
            self.assertEqual(put_together(outcomes, masses, alone), masses)
            self.assertEqual(put_together(outcomes, alone, masses), masses)
            self.assertEqual(clash(outcomes, masses, alone), ZERO)

    def test_total_clash(self):
        one, two = (((0,), (1, 2)), ((0, 1), (1, 2))), (((2,), ONE),)
        self.check_both_ways(ONE, clash, "outcomes masses others", 3, one, two)
        self.check_error_both_ways(TotalClash, {}, put_together, "outcomes masses others", 3, one, two)
        self.check_error_both_ways(TotalClash, {}, masses_behind, "outcomes masses lot", 3, one, (2,))
        # As much as can be, and not all, is lost.
        nearly = (((0,), (999999, 10 ** 6)), ((0, 1, 2), (1, 10 ** 6)))
        self.check_both_ways((((2,), ONE),), put_together, "outcomes masses others", 3, nearly, two)
        self.check_both_ways((999999, 10 ** 6), clash, "outcomes masses others", 3, nearly, two)

    def test_masses_behind(self):
        for outcomes, masses in many_masses(64):
            for lot in lots_of(outcomes)[1:]:
                if room(outcomes, masses, lot) == ZERO:
                    self.check_error(TotalClash, {}, masses_behind, outcomes, masses, lot)
                else:
                    told = masses_behind(outcomes, masses, lot)
                    self.assertEqual(told, put_together(outcomes, masses, ((lot, ONE),)))
                    self.assertEqual(told, put_by_hand(masses, ((lot, ONE),)))

    def test_weakened(self):
        rng = random.Random(65)
        for outcomes, masses in many_masses(65):
            everything = frozenset(range(outcomes))
            self.assertEqual(weakened(outcomes, masses, ZERO), masses)
            self.assertEqual(weakened(outcomes, masses, ONE), ((tuple(range(outcomes)), ONE),))
            for _ in range(3):
                share, other = Fraction(rng.randint(0, 6), 6), Fraction(rng.randint(0, 5), 5)
                numbers = {lot: number * (1 - share) for lot, number in plain(masses).items()}
                numbers[everything] = numbers.get(everything, 0) + share
                once = weakened(outcomes, masses, pair(share))
                self.assertEqual(once, as_pairs(numbers))
                self.assertEqual(weakened(outcomes, once, pair(other)),
                                 weakened(outcomes, masses, pair(1 - (1 - share) * (1 - other))))


class Limits(Told, unittest.TestCase):
    def test_small_shares(self):
        most = 10 ** 6
        masses = (((0,), (1, most)), ((0, 1), (1, 999999)), ((1,), (999998 * most - 999999, most * 999999)))
        self.check_error(InvalidMasses, {"index": 2}, belief, 2, masses, ())
        masses = (((0,), (1, most)), ((0, 1), (499999, 500000)), ((1,), (1, most)))
        self.check_both_ways((1, most), belief, "outcomes masses lot", 2, masses, (1,))
        self.check_both_ways((499999, 500000), belief, "outcomes masses lot", 5, (
            ((0, 1, 2, 3, 4), (1, 500000)), ((1, 2, 4), (499999, 500000))), (1, 2, 3, 4))

    def test_all_lots(self):
        lots = sorted(lots_of(5)[1:])
        masses = tuple((lot, (1, 31)) for lot in lots)
        self.assertEqual(beliefs(5, masses)[30], (15, 31))
        self.assertEqual(room(5, masses, (4,)), (16, 31))
        self.assertEqual(len(put_together(5, masses, masses)), 31)


class Errors(Told, unittest.TestCase):
    def wrong(self, *more):
        """What is wrong for `outcomes` and `masses`, and for what comes behind them."""
        return (given(InvalidNumber, NO_OUTCOMES), indexed(InvalidMasses, NO_MASSES)) + more

    def test_bounds(self):
        for bounds, index in NO_BOUNDS:
            self.check_error_both_ways(InvalidBounds, {"index": index}, masses_of, "bounds", bounds)

    def test_beliefs(self):
        self.check_first_errors(beliefs, "outcomes masses", (3, SOME), self.wrong())

    def test_lots(self):
        for call in (belief, room):
            self.check_first_errors(call, "outcomes masses lot", (3, SOME, (0,)),
                                    self.wrong(given(InvalidLot, no_lots(3))))

    def test_masses_behind(self):
        wrong = self.wrong(given(InvalidLot, no_lots(3) + ((),)))
        self.check_first_errors(masses_behind, "outcomes masses lot", (3, SOME, (0,)), wrong)
        self.check_first_errors(masses_behind, "outcomes masses lot", (3, (((0, 1), ONE),), (2,)), wrong)

    def test_sure_worth(self):
        self.check_first_errors(sure_worth, "outcomes masses payoff", (3, SOME, (1, 2, 3)),
                                self.wrong(given(InvalidPayoff, no_payoffs(3))))

    def test_two_masses(self):
        wrong = self.wrong(indexed(InvalidMasses, NO_MASSES))
        for call in (clash, put_together):
            self.check_first_errors(call, "outcomes masses others", (3, SOME, NEWS), wrong)
            self.check_first_errors(call, "outcomes masses others", (3, (((0,), ONE),), (((1,), ONE),)), wrong)

    def test_weakened(self):
        self.check_first_errors(weakened, "outcomes masses share", (3, SOME, (1, 2)),
                                self.wrong(given(InvalidFraction, NO_SHARES)))

    def test_for_the_number_of_outcomes(self):
        # What is right for three outcomes may be wrong for two.
        for call in (beliefs, belief, clash):
            more = {beliefs: (), belief: ((0,),), clash: (SOME,)}[call]
            self.check_error(InvalidMasses, {"index": 2}, call, 2, SOME, *more)
        self.check_error(InvalidLot, {"given": (2,)}, room, 2, (((0,), ONE),), (2,))
        self.check_error(InvalidPayoff, {"given": (1, 2, 3)}, sure_worth, 2, (((0,), ONE),), (1, 2, 3))
        self.assertEqual(belief(4, SOME, (0, 1, 3)), (3, 4))


if __name__ == "__main__":
    unittest.main()
