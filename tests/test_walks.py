import random
import unittest
from fractions import Fraction
from itertools import product

from softchances.books import Book
from softchances.errors import InvalidLot, InvalidNumber, InvalidPayoff, InvalidWalk
from softchances.walks import greatest_after, greatest_meet, least_after, least_meet, least_row, worst_plan
from softchances.worths import greatest_worth, least_worth
from tests.tools import (BAD, BAD3, HALF, ODD_VALUES, RAIN, SIX, Told, corners_by_hand, fracs, given, indexed,
                         keeps_by_hand, lots_of, no_lots, no_payoffs, pair, pairs, point_book, random_chance,
                         random_payoff, sound_book, worth_by_hand)

AFTER, MEET = (least_after, greatest_after), (least_meet, greatest_meet)
GO, BACK = Book(2, (((0, 1), (1, 4)), ((1, 0), (1, 2)))), Book(2, (((1, 0), (1, 3)),))
PAIR, FREE = (GO, BACK), Book(2, ())
NO_STEPS = (-1, 21, None, True, False, "1", b"1", (1,), [1], {}, 10 ** 70, -10 ** 70, RAIN)

# Each of these is no walk, with the index that is told.
NO_WALKS = (
    ((), None), ((FREE,), None), ((Book(5, ()),) * 5, None), ([GO, BACK], None), ((SIX,) * 6, None), ((None,), None),
    ((None,) * 5, None), ((None, BACK), 0), ((BAD, None), 0), ((RAIN, BACK), 0), ((RAIN, RAIN), 0), (("2:", BACK), 0),
    ((BAD3, RAIN, RAIN), 0), ((SIX, BACK), 0), (((2, ()), BACK), 0), ((GO, GO, GO), 0), ((True, BACK), 0),
    ((GO, BAD), 1), ((GO, None), 1), ((GO, RAIN), 1), ((GO, BAD3), 1), ((GO, [BACK]), 1), ((GO, Book), 1),
    ((RAIN, RAIN, BAD3), 2), ((RAIN, RAIN, GO), 2), ((Book(4, ()),) * 3 + (RAIN,), 3), ((Book(4, ()),) * 3 + (None,), 3)
) + tuple((value, None) for value in ODD_VALUES)


def walks(seed):
    """Walks of two to four places, with books that are small enough to find their corners by hand."""
    rng = random.Random(seed)
    yield PAIR
    for places, sizes in ((2, (0, 1, 3, 8)), (3, (0, 1, 3, 5)), (4, (0, 1, 3))):
        for _ in range(5):
            yield tuple(sound_book(rng, places, rng.choice(sizes), rng.choice((2, 5)), rng.choice((0, 2)))
                        for _ in range(places))
        yield tuple(point_book(random_chance(rng, places, 2)) for _ in range(places))
        yield (Book(places, ()),) * places


def step_by_hand(corners, worths, choose):
    """What each place comes to, all corners of each place being looked at."""
    return [choose(worth_by_hand(worths, corner) for corner in some) for some in corners]


def after_by_hand(corners, payoff, steps, choose):
    """The worths behind so many steps."""
    worths = [Fraction(number) for number in payoff]
    for _ in range(steps):
        worths = step_by_hand(corners, worths, choose)
    return pairs(worths)


def meet_by_hand(corners, lot, steps, choose):
    """The chances to meet the lot within so many steps."""
    chances = [Fraction(int(at in lot)) for at in range(len(corners))]
    for _ in range(steps):
        chances = [Fraction(1) if at in lot else number
                   for at, number in enumerate(step_by_hand(corners, chances, choose))]
    return pairs(chances)


class ByHand(Told, unittest.TestCase):
    def test_after(self):
        for steps, least in ((0, ((0, 1), (1, 1))), (1, ((1, 4), (0, 1))), (2, ((1, 8), (1, 12)))):
            self.check_both_ways(least, least_after, "walk payoff steps", PAIR, (0, 1), steps)
        for steps, greatest in ((0, ((0, 1), (1, 1))), (1, ((1, 2), (2, 3))), (2, ((7, 12), (11, 18)))):
            self.check_both_ways(greatest, greatest_after, "walk payoff steps", PAIR, (0, 1), steps)
        self.check_both_ways(((0, 1), (1, 4), (1, 8)), least_row, "walk payoff steps", PAIR, (0, 1), 2)
        self.check_both_ways(((0, 1),), least_row, "walk payoff steps", PAIR, (0, 1), 0)

    def test_meet(self):
        for steps, least, greatest in ((0, (0, 1), (0, 1)), (1, (1, 4), (1, 2)), (2, (7, 16), (3, 4)),
                                       (3, (37, 64), (7, 8))):
            self.check_both_ways((least, (1, 1)), least_meet, "walk lot steps", PAIR, (1,), steps)
            self.check_both_ways((greatest, (1, 1)), greatest_meet, "walk lot steps", PAIR, (1,), steps)

    def test_plans(self):
        self.check_both_ways((((3, 4), (1, 4)), ((1, 1), (0, 1))), worst_plan, "walk payoff", PAIR, (0, 1))
        self.check_both_ways((((1, 2), (1, 2)), ((1, 3), (2, 3))), worst_plan, "walk payoff", PAIR, (0, -1))

    def test_free_walks(self):
        for places in (2, 3, 4):
            walk = (Book(places, ()),) * places
            payoff = tuple(range(-places, 0))
            for steps in (1, 2, 20):
                self.check_both_ways(((-places, 1),) * places, least_after, "walk payoff steps", walk, payoff, steps)
                self.check_both_ways(((-1, 1),) * places, greatest_after, "walk payoff steps", walk, payoff, steps)
                self.check_both_ways(((0, 1),) * (places - 1) + ((1, 1),), least_meet, "walk lot steps", walk,
                                     (places - 1,), steps)
                self.check_both_ways(((1, 1),) * places, greatest_meet, "walk lot steps", walk, (places - 1,), steps)

    def test_twenty_steps(self):
        walk = (Book.read("2: 1,0>=1/2 -1,0>=-1/2"), Book.read("2: 0,1>=1/1"))
        for call in AFTER:
            self.check_both_ways(((1, 2 ** 20), (0, 1)), call, "walk payoff steps", walk, (1, 0), 20)
        for call in MEET:
            self.check_both_ways(((2 ** 20 - 1, 2 ** 20), (1, 1)), call, "walk lot steps", walk, (1,), 20)
        self.check_both_ways(tuple((1, 2 ** step) for step in range(21)), least_row, "walk payoff steps", walk, (1, 0),
                             20)


class ByCorners(Told, unittest.TestCase):
    def test_after(self):
        rng = random.Random(121)
        for walk in walks(121):
            corners = [corners_by_hand(book) for book in walk]
            for steps in (0, 1, 2, 3, 7, 20):
                payoff = random_payoff(rng, len(walk), rng.choice((1, 5, 1000)))
                self.assertEqual(least_after(walk, payoff, steps), after_by_hand(corners, payoff, steps, min))
                self.assertEqual(greatest_after(walk, payoff, steps), after_by_hand(corners, payoff, steps, max))

    def test_meet(self):
        for walk in walks(122):
            corners = [corners_by_hand(book) for book in walk]
            for lot in lots_of(len(walk)):
                for steps in (0, 1, 2, 20):
                    least, greatest = least_meet(walk, lot, steps), greatest_meet(walk, lot, steps)
                    self.assertEqual(least, meet_by_hand(corners, lot, steps, min))
                    self.assertEqual(greatest, meet_by_hand(corners, lot, steps, max))
                    if not lot or len(lot) == len(walk):
                        self.assertEqual(least, ((int(bool(lot)), 1),) * len(walk))
                        self.assertEqual(greatest, least)

    def test_all_choices_of_corners(self):
        # Every choice at every step, place by place, chosen ahead for three steps.
        rng = random.Random(123)
        for walk in walks(123):
            corners = [corners_by_hand(book) for book in walk]
            plans = list(product(*corners))
            if len(plans) > 12:
                continue
            payoff = random_payoff(rng, len(walk))
            ends = [[[Fraction(number) for number in payoff]]]
            for _ in range(3):
                ends.append([[worth_by_hand(worths, chance) for chance in plan] for plan in plans
                             for worths in ends[-1]])
            for steps, found in enumerate(ends):
                by_place = list(zip(*found))
                self.assertEqual(least_after(walk, payoff, steps), pairs(map(min, by_place)))
                self.assertEqual(greatest_after(walk, payoff, steps), pairs(map(max, by_place)))

    def test_one_step(self):
        rng = random.Random(124)
        for walk in walks(124):
            payoff = random_payoff(rng, len(walk), 1000)
            self.assertEqual(least_after(walk, payoff, 0), tuple((number, 1) for number in payoff))
            self.assertEqual(least_after(walk, payoff, 1), tuple(least_worth(book, payoff) for book in walk))
            self.assertEqual(greatest_after(walk, payoff, 1), tuple(greatest_worth(book, payoff) for book in walk))

    def test_plans(self):
        rng = random.Random(125)
        for walk in walks(125):
            payoff = random_payoff(rng, len(walk), rng.choice((1, 1000)))
            plan = worst_plan(walk, payoff)
            self.assertIs(type(plan), tuple)
            self.assertEqual(len(plan), len(walk))
            for book, chance, least in zip(walk, plan, least_after(walk, payoff, 1)):
                self.assertTrue(keeps_by_hand(book, fracs(chance)))
                self.assertEqual(pair(worth_by_hand(payoff, fracs(chance))), least)

    def test_rows(self):
        rng = random.Random(126)
        for walk in walks(126):
            payoff = random_payoff(rng, len(walk))
            for steps in (0, 1, 4, 20):
                row = tuple(least_after(walk, payoff, many)[0] for many in range(steps + 1))
                self.assertEqual(least_row(walk, payoff, steps), row)

    def test_more_steps_meet_more(self):
        rng = random.Random(127)
        for walk in walks(127):
            lot = rng.choice(lots_of(len(walk)))
            for call in MEET:
                told = [fracs(call(walk, lot, steps)) for steps in range(8)]
                for before, behind in zip(told, told[1:]):
                    self.assertTrue(all(one <= two for one, two in zip(before, behind)))

    def test_large_books(self):
        rng = random.Random(128)
        for places in (2, 3, 4):
            walk = tuple(sound_book(rng, places, 32, 1000, 200) for _ in range(places))
            payoff = random_payoff(rng, places, 1000)
            least, greatest = fracs(least_after(walk, payoff, 20)), fracs(greatest_after(walk, payoff, 20))
            self.assertTrue(all(min(payoff) <= one <= two <= max(payoff) for one, two in zip(least, greatest)))


class Errors(Told, unittest.TestCase):
    def test_after(self):
        wrong = (indexed(InvalidWalk, NO_WALKS), given(InvalidPayoff, no_payoffs(2)), given(InvalidNumber, NO_STEPS))
        for call in AFTER + (least_row,):
            self.check_first_errors(call, "walk payoff steps", (PAIR, (1, 2), 3), wrong)

    def test_meet(self):
        wrong = indexed(InvalidWalk, NO_WALKS), given(InvalidLot, no_lots(2)), given(InvalidNumber, NO_STEPS)
        for call in MEET:
            self.check_first_errors(call, "walk lot steps", (PAIR, (1,), 3), wrong)

    def test_plans(self):
        wrong = indexed(InvalidWalk, NO_WALKS), given(InvalidPayoff, no_payoffs(2))
        self.check_first_errors(worst_plan, "walk payoff", (PAIR, (1, 2)), wrong)

    def test_for_the_number_of_places(self):
        three = (RAIN,) * 3
        self.check_error(InvalidPayoff, {"given": (1, 2)}, least_after, three, (1, 2), 1)
        self.check_error(InvalidLot, {"given": (2,)}, least_meet, PAIR, (2,), 1)
        self.assertEqual(len(least_meet(three, (2,), 1)), 3)
        self.assertEqual(len(least_after((Book(4, ()),) * 4, (0, 1, 2, 1000), 20)), 4)

    def test_right_walks(self):
        for walk in ((HALF, HALF), (RAIN,) * 3, (Book(4, ()),) * 4, (GO, GO)):
            self.assertEqual(len(worst_plan(walk, (-1000,) + (1000,) * (len(walk) - 1))), len(walk))


if __name__ == "__main__":
    unittest.main()
