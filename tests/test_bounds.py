import random
import unittest
from fractions import Fraction
from itertools import permutations

from softchances.books import Book
from softchances.bounds import (book_of, bounds_of, gathers, is_kept, is_tight_bounds, level_worth, numbers_of,
                                order_chance, order_chances, scattering, tightened)
from softchances.corners import corners
from softchances.errors import (InvalidBounds, InvalidFraction, InvalidOrder, InvalidPayoff, NotABook, NotSound,
                                TooGreat)
from softchances.worths import least_chance, least_worth
from tests.tools import (BAD, BAD6, HALF, NO_BOOKS, ODD_VALUES, RAIN, SIX, Told, corners_by_hand, corners_of_limits,
                         frac, fracs, is_chance, lots_of, no_payoffs, pair, pairs, random_payoff, small_books,
                         some_books)

ZERO, ONE = (0, 1), (1, 1)
LOW = (ZERO, (1, 3), (1, 4), (7, 12), (1, 4), (7, 12), (1, 2), ONE)
LOOSE = (ZERO, ZERO, ZERO, (3, 5), ZERO, (3, 5), (3, 5), ONE)
NONE_KEEPS = (ZERO, ZERO, ZERO, (3, 4), ZERO, (3, 4), (3, 4), ONE)
EVEN = (ZERO, (1, 2), (1, 2), ONE)
ALONE = (ZERO, (333333, 10 ** 6), (666667, 10 ** 6), ONE)
BY_BOUNDS = (book_of, is_kept, is_tight_bounds, gathers, scattering, tightened, numbers_of, order_chances)

# Each of these is no bounds, with the index that is told.
NO_BOUNDS = (
    ((), None), ((ZERO,), None), ((ZERO, ONE), None), ((ZERO, ZERO, ONE), None), ((ZERO,) * 4 + (ONE,), None),
    ((ZERO,) * 16 + (ONE,), None), ((ZERO,) * 63 + (ONE,), None), (list(EVEN), None), ((None,) * 5, None),
    (((1, 2), ZERO, ZERO, ONE), 0), ((ONE, ONE, ONE, ONE), 0), ((None, ZERO, ZERO, ONE), 0), (((0, 2), None, None, None), 0),
    ((False, ZERO, ZERO, ONE), 0), ((ZERO, (2, 4), ZERO, ONE), 1), ((ZERO, (3, 2), ZERO, ONE), 1),
    ((ZERO, (-1, 2), ZERO, ONE), 1), ((ZERO, [1, 2], ZERO, ONE), 1), ((ZERO, (True, 2), ZERO, ONE), 1),
    ((ZERO, (1, 10 ** 6 + 1), ZERO, ONE), 1), ((ZERO, ZERO, 1, ONE), 2), ((ZERO, ZERO, (1, 0), (1, 2)), 2),
    ((ZERO, ZERO, ZERO, ZERO), 3), ((ZERO, ZERO, ZERO, (1, 2)), 3), ((ZERO, ZERO, ZERO, (2, 2)), 3),
    ((ZERO, ZERO, ZERO, (2, 1)), 3), ((ZERO, ZERO, ZERO, True), 3), ((ZERO, ONE, ONE, (999999, 10 ** 6)), 3),
    ((ZERO, (1, 2), ZERO, (1, 3), ZERO, (1, 2), ZERO, ONE), 3), ((ZERO, ZERO, (1, 2), (1, 3), ZERO, ZERO, ZERO, ONE), 3),
    ((ZERO, (1, 2), ZERO, (1, 2), (1, 3), (1, 3), (1, 3), ONE), 5), ((ZERO, ZERO, ZERO, ZERO, (1, 2), (1, 3), (1, 2), ONE), 5),
    ((ZERO, ZERO, (1, 2), (1, 2), ZERO, ZERO, (1, 3), ONE), 6), ((ZERO, ZERO, ZERO, ZERO, (1, 2), (1, 2), (1, 3), None), 6),
    (LOW[:7] + ((11, 12),), 7), (LOW[:4] + (None,) * 4, 4))
NO_BOUNDS += tuple((value, None) for value in ODD_VALUES)

# Each of these is no order of three outcomes, with the index that is told.
NO_ORDERS = (
    ((), None), ((0, 1), None), ((0, 1, 2, 0), None), ((0, 1, 2, 3), None), ([0, 1, 2], None), ((None, 0), None),
    ((3, 0, 1), 0), ((-1, 0, 1), 0), ((True, 0, 2), 0), ((None, None, None), 0), (("0", 1, 2), 0), (((0,), 1, 2), 0),
    ((0, 0, 1), 1), ((0, True, 2), 1), ((0, 3, 3), 1), ((2, 2, 2), 1), ((0, 1, 1), 2), ((0, 1, 0), 2), ((1, 0, 3), 2),
    ((1, 2, False), 2), ((0, 1, RAIN), 2), ((0, 1, 10 ** 70), 2)) + tuple((value, None) for value in ODD_VALUES)


def kept_corners(bounds):
    """All corners, by hand, of the chances that keep the bounds."""
    outcomes = len(bounds).bit_length() - 1
    limits = [(tuple(int(at in lot) for at in range(outcomes)), Fraction(*bound))
              for lot, bound in zip(lots_of(outcomes), bounds) if bound[0] and len(lot) < outcomes]
    return corners_of_limits(outcomes, limits)


def numbers_by_hand(bounds):
    """The numbers of all lots."""
    lots = lots_of(len(bounds).bit_length() - 1)
    return [sum(Fraction(*bound) * (-1) ** (len(lot) - len(part)) for part, bound in zip(lots, bounds)
                if set(part) <= set(lot)) for lot in lots]


def bounds_by_masses(rng, outcomes, most=4):
    """Bounds that come of masses, and the masses as plain numbers."""
    lots = lots_of(outcomes)
    numbers = [0] + [rng.randint(0, most) * rng.randint(0, 1) for _ in lots[1:]]
    numbers[rng.randrange(1, len(lots))] += 1
    masses = [Fraction(number, sum(numbers)) for number in numbers]
    return sums_within(masses), masses


def sums_within(masses):
    """The sums of the masses within each lot."""
    lots = lots_of(len(masses).bit_length() - 1)
    return pairs(sum(mass for part, mass in zip(lots, masses) if set(part) <= set(lot)) for lot in lots)


def any_bounds(rng, outcomes, bottom=12, most=3):
    """Bounds that need not be kept."""
    numbers = []
    for place in range(1 << outcomes):
        below = [numbers[place - (1 << at)] for at in range(outcomes) if place >> at & 1]
        numbers.append(min(bottom, max(below + [0]) + rng.randint(0, most) * (place > 0)))
    numbers[-1] = bottom
    return pairs(Fraction(number, bottom) for number in numbers)


def lowered(rng, bounds):
    """The bounds with one of them, not of one outcome alone, as low as can be."""
    outcomes = len(bounds).bit_length() - 1
    lots = [place for place in range(len(bounds) - 1) if len(lots_of(outcomes)[place]) > 1]
    place = rng.choice(lots)
    least = max(Fraction(*bounds[place - (1 << at)]) for at in range(outcomes) if place >> at & 1)
    return bounds[:place] + (pair(least),) + bounds[place + 1:]


def level_by_hand(bounds, payoff):
    """The level worth, as the sum over all whole numbers above the least one."""
    total = Fraction(min(payoff))
    for level in range(min(payoff) + 1, max(payoff) + 1):
        total += Fraction(*bounds[sum(1 << at for at, number in enumerate(payoff) if number >= level)])
    return total


def shows(bounds, lots):
    """Whether this pair of lots shows that the bounds do not gather."""
    one, two = (set(lot) for lot in lots)
    held = [Fraction(*bounds[sum(1 << at for at in lot)]) for lot in (one, two, one | two, one & two)]
    return held[0] + held[1] > held[2] + held[3]


def does_gather(bounds):
    """Whether no pair of lots shows that they do not."""
    lots = lots_of(len(bounds).bit_length() - 1)
    return not any(shows(bounds, (one, two)) for one in lots for two in lots)


def examples(seed):
    """Bounds of all kinds."""
    rng = random.Random(seed)
    yield from (LOW, LOOSE, NONE_KEEPS, EVEN, ALONE)
    for outcomes in (2, 3, 4, 5):
        yield (ZERO,) * (2 ** outcomes - 1) + (ONE,)
        yield (ZERO,) + (ONE,) * (2 ** outcomes - 1)
        for many in range(8 if outcomes < 5 else 2):
            bounds = bounds_by_masses(rng, outcomes)[0]
            yield bounds
            if outcomes > 2:
                yield lowered(rng, bounds)
            yield any_bounds(rng, outcomes, rng.choice((5, 12, 30)), rng.randint(1, 3))
    for book in small_books(seed, most_outcomes=4):
        bounds = bounds_of(book)
        if max(bottom for _, bottom in bounds) <= 10 ** 6:
            yield bounds


class ByHand(Told, unittest.TestCase):
    def test_bounds_of(self):
        self.check_both_ways(LOW, bounds_of, "book", RAIN)
        self.check_both_ways((ZERO, (1, 3), (1, 3), ONE), bounds_of, "book", HALF)
        for outcomes in (2, 3, 4, 5):
            self.check_both_ways((ZERO,) * (2 ** outcomes - 1) + (ONE,), bounds_of, "book", Book(outcomes, ()))

    def test_book_of(self):
        self.check_both_ways(Book.read("3: 1,1,0>=3/5 1,0,1>=3/5 0,1,1>=3/5"), book_of, "bounds", LOOSE)
        self.check_both_ways(Book.read("3: 1,0,0>=1/3 0,1,0>=1/4 1,1,0>=7/12 0,0,1>=1/4 1,0,1>=7/12 0,1,1>=1/2"),
                             book_of, "bounds", LOW)
        self.check_both_ways(Book.read("2: 1,0>=1/2 0,1>=1/2"), book_of, "bounds", EVEN)
        self.check_both_ways(Book(5, ()), book_of, "bounds", (ZERO,) * 31 + (ONE,))
        self.assertEqual(len(book_of((ZERO,) + ((1, 7),) * 30 + (ONE,)).quotes), 30)

    def test_kinds(self):
        for bounds, kept, tight, gathering in ((LOW, True, True, True), (LOOSE, True, False, False),
                                               (NONE_KEEPS, False, False, False), (EVEN, True, True, True),
                                               (ALONE, True, True, True),
                                               ((ZERO, (2, 3), (1, 2), ONE), False, False, False)):
            self.check_both_ways(kept, is_kept, "bounds", bounds)
            self.check_both_ways(tight, is_tight_bounds, "bounds", bounds)
            self.check_both_ways(gathering, gathers, "bounds", bounds)
            self.assertIs(scattering(bounds) is None, gathering)

    def test_tightened(self):
        self.check_both_ways((ZERO, (1, 5), (1, 5), (3, 5), (1, 5), (3, 5), (3, 5), ONE), tightened, "bounds", LOOSE)
        self.check_both_ways(LOW, tightened, "bounds", LOW)
        self.check_both_ways(ALONE, tightened, "bounds", ALONE)

    def test_tight_and_not_gathering(self):
        # Two of four outcomes: at least a half for three pairs that meet in one outcome.
        limits = {0: 0, 3: 1, 5: 1, 9: 1, 7: 1, 11: 1, 13: 1, 14: 1, 15: 2}
        bounds = pairs(Fraction(limits.get(place, 0), 2) for place in range(16))
        tight = tightened(bounds)
        self.assertTrue(is_tight_bounds(tight))
        self.assertFalse(gathers(tight))
        self.assertTrue(shows(tight, scattering(tight)))

    def test_gathering_without_masses(self):
        bounds = (ZERO, ZERO, ZERO, (1, 2), ZERO, (1, 2), (1, 2), ONE)
        self.assertTrue(gathers(bounds))
        self.check_both_ways((ZERO, ZERO, ZERO, (1, 2), ZERO, (1, 2), (1, 2), (-1, 2)), numbers_of, "bounds", bounds)

    def test_numbers(self):
        self.check_both_ways((ZERO, (1, 3), (1, 4), ZERO, (1, 4), ZERO, ZERO, (1, 6)), numbers_of, "bounds", LOW)
        self.check_both_ways((ZERO, ZERO, ZERO, (3, 5), ZERO, (3, 5), (3, 5), (-4, 5)), numbers_of, "bounds", LOOSE)

    def test_level_worth(self):
        self.check_both_ways((-1, 2), level_worth, "bounds payoff", LOW, (6, 0, -6))
        self.check_both_ways((0, 1), level_worth, "bounds payoff", LOOSE, (1, 0, 0))
        self.check_both_ways((5, 1), level_worth, "bounds payoff", LOOSE, (5, 5, 5))
        self.check_both_ways((13, 5), level_worth, "bounds payoff", LOOSE, (3, 2, 3))
        self.check_both_ways((-1000, 1), level_worth, "bounds payoff", (ZERO, ZERO, ZERO, ONE), (1000, -1000))

    def test_orders(self):
        self.check_both_ways(((1, 3), (1, 4), (5, 12)), order_chance, "bounds order", LOW, (0, 1, 2))
        self.check_both_ways(((1, 2), (1, 4), (1, 4)), order_chance, "bounds order", LOW, (1, 2, 0))
        self.check_both_ways((ZERO, (3, 5), (2, 5)), order_chance, "bounds order", LOOSE, (0, 1, 2))
        self.check_both_ways(((2, 5), ZERO, (3, 5)), order_chance, "bounds order", LOOSE, (1, 2, 0))
        self.check_both_ways((((1, 2), (1, 2)),), order_chances, "bounds", EVEN)
        self.check_both_ways((((1, 3), (2, 3)), ((2, 3), (1, 3))), order_chances, "bounds", (ZERO, (1, 3), (1, 3), ONE))

    def test_ascending_by_size(self):
        bounds = (ZERO, (5, 12), (1, 2), ONE)
        self.assertEqual(order_chances(bounds), (((5, 12), (7, 12)), ((1, 2), (1, 2))))


class Bounds(Told, unittest.TestCase):
    def test_bounds_of_books(self):
        for book in small_books(51, most_outcomes=5):
            found = corners_by_hand(book)
            by_hand = pairs(min(sum(corner[at] for at in lot) for corner in found) for lot in lots_of(book.outcomes))
            self.assertEqual(bounds_of(book), by_hand)

    def test_least_chances(self):
        for book in some_books(52):
            if book.outcomes < 6:
                self.assertEqual(bounds_of(book), tuple(least_chance(book, lot) for lot in lots_of(book.outcomes)))

    def test_there_and_back(self):
        told = 0
        for bounds in examples(53):
            if is_tight_bounds(bounds) and max(bottom for _, bottom in bounds) <= 1000:
                told += 1
                self.assertEqual(bounds_of(book_of(bounds)), bounds)
        self.assertGreater(told, 20)

    def test_kept_and_tight_by_hand(self):
        told = {}
        for bounds in examples(54):
            if len(bounds) == 32:
                continue
            found = kept_corners(bounds)
            self.assertIs(is_kept(bounds), bool(found))
            if not found:
                self.check_error(NotSound, {}, tightened, bounds)
                self.assertIs(is_tight_bounds(bounds), False)
                kind = "none"
            else:
                lots = lots_of(len(bounds).bit_length() - 1)
                least = pairs(min(sum(corner[at] for at in lot) for corner in found) for lot in lots)
                self.assertEqual(tightened(bounds), least)
                self.assertIs(is_tight_bounds(bounds), least == bounds)
                kind = "tight" if least == bounds else "kept"
            told[kind] = told.get(kind, 0) + 1
        self.assertEqual(len(told), 3)
        self.assertGreater(min(told.values()), 5)

    def test_five_outcomes(self):
        rng = random.Random(55)
        for most in (1, 1, 2, 3):
            bounds = any_bounds(rng, 5, 30, most)
            if not is_kept(bounds):
                self.check_error(NotSound, {}, tightened, bounds)
                continue
            tight = tightened(bounds)
            self.assertTrue(all(frac(one) >= frac(two) for one, two in zip(tight, bounds)))
            self.assertEqual(tight, tuple(least_chance(book_of(bounds), lot) for lot in lots_of(5)))
            self.assertIs(is_tight_bounds(bounds), tight == bounds)

    def test_gathering_by_hand(self):
        told = {True: 0, False: 0}
        for bounds in examples(56):
            answer = gathers(bounds)
            self.assertIs(answer, does_gather(bounds))
            told[answer] += 1
            lots = scattering(bounds)
            if answer:
                self.assertIsNone(lots)
            else:
                self.assertIs(type(lots), tuple)
                self.assertTrue(set(lots) <= set(lots_of(len(bounds).bit_length() - 1)))
                self.assertEqual(len(lots), 2)
                self.assertTrue(shows(bounds, lots))
        self.assertGreater(min(told.values()), 20)

    def test_gathering_bounds_are_tight(self):
        for bounds in examples(57):
            if gathers(bounds):
                self.assertTrue(is_kept(bounds) and is_tight_bounds(bounds))

    def test_numbers_by_hand(self):
        for bounds in examples(58):
            numbers = numbers_of(bounds)
            self.assertEqual(fracs(numbers), tuple(numbers_by_hand(bounds)))
            self.assertEqual(sums_within([Fraction(*number) for number in numbers]), bounds)
            if min(fracs(numbers)) >= 0:
                self.assertTrue(gathers(bounds))

    def test_masses_and_back(self):
        rng = random.Random(59)
        for outcomes in (2, 3, 4, 5):
            for _ in range(6):
                bounds, masses = bounds_by_masses(rng, outcomes)
                self.assertEqual(fracs(numbers_of(bounds)), tuple(masses))


class Worths(Told, unittest.TestCase):
    def test_level_worth_by_hand(self):
        rng = random.Random(60)
        for bounds in examples(60):
            for most in (1, 3, 40):
                payoff = random_payoff(rng, len(bounds).bit_length() - 1, most)
                self.assertEqual(level_worth(bounds, payoff), pair(level_by_hand(bounds, payoff)))

    def test_level_and_least_worth(self):
        rng = random.Random(61)
        less = 0
        for bounds in examples(61):
            if max(bottom for _, bottom in bounds) > 1000 or not is_kept(bounds):
                continue
            book, does = book_of(bounds), gathers(bounds)
            for _ in range(5):
                payoff = random_payoff(rng, book.outcomes, 9)
                level, least = frac(level_worth(bounds, payoff)), frac(least_worth(book, payoff))
                self.assertLessEqual(level, least)
                if does:
                    self.assertEqual(level, least)
                less += level < least
        self.assertGreater(less, 5)

    def test_chances_of_orders(self):
        for bounds in examples(62):
            outcomes = len(bounds).bit_length() - 1
            if outcomes == 5:
                continue
            found = set()
            for order in permutations(range(outcomes)):
                chance, by_hand, before = fracs(order_chance(bounds, order)), {}, Fraction(0)
                self.assertTrue(is_chance(chance, outcomes))
                for at, outcome in enumerate(order):
                    now = Fraction(*bounds[sum(1 << one for one in order[:at + 1])])
                    by_hand[outcome], before = now - before, now
                self.assertEqual(chance, tuple(by_hand[outcome] for outcome in range(outcomes)))
                found.add(chance)
            self.assertEqual([fracs(chance) for chance in order_chances(bounds)], sorted(found))

    def test_corners_of_gathering_bounds(self):
        told = 0
        for bounds in examples(63):
            if gathers(bounds) and max(bottom for _, bottom in bounds) <= 1000:
                told += 1
                self.assertEqual(order_chances(bounds), corners(book_of(bounds)))
        self.assertGreater(told, 20)

    def test_five_outcomes(self):
        bounds, _ = bounds_by_masses(random.Random(64), 5)
        told = order_chances(bounds)
        self.assertEqual(set(told), {order_chance(bounds, order) for order in permutations(range(5))})
        self.assertTrue(all(fracs(one) < fracs(two) for one, two in zip(told, told[1:])))


class Errors(Told, unittest.TestCase):
    def test_wrong_book(self):
        for value in NO_BOOKS:
            self.check_error_both_ways(NotABook, {"given": value}, bounds_of, "book", value)

    def test_not_sound_ahead_of_too_great(self):
        for book in (BAD, BAD6):
            self.check_error_both_ways(NotSound, {}, bounds_of, "book", book)
        self.check_error_both_ways(TooGreat, {"given": 6}, bounds_of, "book", SIX)

    def test_wrong_bounds(self):
        for value, index in NO_BOUNDS:
            for call in BY_BOUNDS:
                self.check_error_both_ways(InvalidBounds, {"index": index}, call, "bounds", value)
            for payoff in ((1, 2), None):
                self.check_error_both_ways(InvalidBounds, {"index": index}, level_worth, "bounds payoff", value, payoff)
            for order in ((0, 1), None):
                self.check_error_both_ways(InvalidBounds, {"index": index}, order_chance, "bounds order", value, order)

    def test_wrong_payoff(self):
        for bounds in (LOW, NONE_KEEPS):
            for value in no_payoffs(3):
                self.check_error_both_ways(InvalidPayoff, {"given": value}, level_worth, "bounds payoff", bounds, value)

    def test_wrong_order(self):
        for bounds in (LOW, NONE_KEEPS):
            for value, index in NO_ORDERS:
                self.check_error_both_ways(InvalidOrder, {"index": index}, order_chance, "bounds order", bounds, value)

    def test_bounds_that_are_no_prices(self):
        one, two = (1, 1001), (2, 1001)
        self.check_error_both_ways(InvalidFraction, {"given": one}, book_of, "bounds", (ZERO, one, two, ONE))
        self.check_error_both_ways(InvalidFraction, {"given": two}, book_of, "bounds", (ZERO, (1, 1000), two, ONE))
        self.check_error_both_ways(InvalidFraction, {"given": ALONE[1]}, book_of, "bounds", ALONE)
        self.check_error_both_ways(InvalidBounds, {"index": 2}, book_of, "bounds", (ZERO, one, None, ONE))
        self.check_error_both_ways(InvalidBounds, {"index": 3}, book_of, "bounds", (ZERO, one, two, two))

    def test_not_sound(self):
        self.check_error_both_ways(NotSound, {}, tightened, "bounds", NONE_KEEPS)
        self.check_error_both_ways(NotSound, {}, tightened, "bounds", (ZERO, ONE, (1, 10 ** 6), ONE))


if __name__ == "__main__":
    unittest.main()
