import random
import unittest
from fractions import Fraction
from math import lcm

from softchances.acts import (beating_mix, best_mix, chance_for_act, good_acts, open_acts, safe_acts, unbeaten_acts)
from softchances.books import Book, scaled_rows
from softchances.errors import InvalidActs, InvalidIndex, NotABook, NotSound
from softchances.simplex import least_end
from softchances.worths import least_worth
from tests.tools import (BAD, BAD3, BAD6, HALF, NO_BOOKS, ODD_VALUES, RAIN, SIX, Told, corners_by_hand,
                         corners_of_limits, frac, fracs, given, indexed, is_chance, keeps_by_hand, no_indexes,
                         no_payoffs, pair, point_book, random_chance, random_payoff, small_books, some_books,
                         worth_by_hand)

BY_ACTS = (safe_acts, unbeaten_acts, good_acts, open_acts, best_mix)
BY_ACT = (chance_for_act, beating_mix)
THREE, FOUR = ((6, 0), (0, 6), (2, 2)), ((3, 0, 0), (0, 4, 4), (2, 2, 2))

# Each of these is no acts for two outcomes, with the index that is told.
NO_ACTS = (((), None), ([(1, 2)], None), (((1, 2),) * 9, 8), (((1, 2),) * 8 + (None,), 8),
           (((1, 2),) * 8 + ((1,),) * 5, 8), (((1, 2),) * 7 + (None, (1, 2)), 7))
NO_ACTS += tuple((value, None) for value in ODD_VALUES)
NO_ACTS += tuple((((3, 4),) * at + (value,) + behind, at) for value in no_payoffs(2)
                 for at, behind in ((0, ()), (1, (None, (1, 2)))))


def limits_of(book):
    """What the chances of the set are bound to."""
    return [(payoff, Fraction(*price)) for payoff, price in book.quotes]


def less(one, two):
    """The one payoff less the other."""
    return tuple(high - low for high, low in zip(one, two))


def mixed_worth(mix, acts, chance):
    """The worth of a mix of plain numbers at a chance."""
    return sum((share * worth_by_hand(payoff, chance) for share, payoff in zip(mix, acts)), Fraction(0))


def random_acts(rng, outcomes, many, most):
    """Some acts, now and then one of them twice."""
    acts = [random_payoff(rng, outcomes, most) for _ in range(many)]
    if many > 1 and rng.randint(0, 2) == 0:
        acts[rng.randrange(1, many)] = acts[0]
    return tuple(acts)


def choices(seed, most_outcomes=4):
    """Books with corners that can be found by hand, and acts for them."""
    rng = random.Random(seed)
    for book in small_books(seed, most_outcomes):
        if len(book.quotes) < 10:
            for many in (1, 2, 3, 5, 8):
                if book.outcomes < 4 or len(book.quotes) + many < 9:
                    yield book, random_acts(rng, book.outcomes, many, rng.choice((1, 3, 1000)))


class ByHand(Told, unittest.TestCase):
    def test_three(self):
        for call, told in ((safe_acts, (0, 1, 2)), (unbeaten_acts, (0, 1, 2)), (good_acts, (0, 1)),
                           (open_acts, (0, 1, 2)), (best_mix, ((3, 1), ((1, 2), (1, 2), (0, 1))))):
            self.check_both_ways(told, call, "book acts", HALF, THREE)
        self.check_both_ways(None, chance_for_act, "book acts act", HALF, THREE, 2)
        self.check_both_ways(None, beating_mix, "book acts act", HALF, THREE, 0)
        self.check_both_ways(None, beating_mix, "book acts act", HALF, THREE, 1)

    def test_four(self):
        for call in (safe_acts, unbeaten_acts, good_acts, open_acts):
            self.check_both_ways((1, 2), call, "book acts", RAIN, FOUR)
        self.check_both_ways((1, 2), good_acts, "book acts", RAIN, FOUR)
        self.assertEqual(best_mix(RAIN, FOUR)[0], (2, 1))

    def test_apart(self):
        # Each kind of act with one that is not of the next kind.
        book = Book(2, ())
        acts = ((0, 9), (9, 0), (4, 4), (3, 5), (0, 0), (-1, 5))
        self.check_both_ways((2,), safe_acts, "book acts", book, acts)
        self.check_both_ways((0, 1, 2, 3), unbeaten_acts, "book acts", book, acts)
        self.check_both_ways((0, 1), good_acts, "book acts", book, acts)
        self.check_both_ways((0, 1, 2, 3, 5), open_acts, "book acts", book, acts)
        self.check_both_ways(((9, 2), ((1, 2), (1, 2)) + ((0, 1),) * 4), best_mix, "book acts", book, acts)

    def test_level_acts(self):
        # An act with no more than another one everywhere is good where both are level.
        book, acts = Book(2, ()), ((1, 1), (1, 0), (0, 1), (0, 0))
        self.check_both_ways((0, 1, 2), good_acts, "book acts", book, acts)
        self.check_both_ways(((1, 1), (0, 1)), chance_for_act, "book acts act", book, acts, 1)
        self.check_both_ways((0, 1, 2), unbeaten_acts, "book acts", book, acts)
        self.check_both_ways((0, 1, 2), open_acts, "book acts", book, acts)
        self.check_both_ways(((1, 1), (0, 1), (0, 1), (0, 1)), beating_mix, "book acts act", book, acts, 3)

    def test_one_act(self):
        for payoff in ((0, 0), (1000, -1000), (-5, -6)):
            for call in (safe_acts, unbeaten_acts, good_acts, open_acts):
                self.check_both_ways((0,), call, "book acts", HALF, (payoff,))
            self.check_both_ways((least_worth(HALF, payoff), ((1, 1),)), best_mix, "book acts", HALF, (payoff,))
            self.check_both_ways(None, beating_mix, "book acts act", HALF, (payoff,), 0)

    def test_an_act_said_twice(self):
        for call in (safe_acts, unbeaten_acts, good_acts, open_acts):
            self.check_both_ways((0, 1, 2, 3, 4, 5, 6, 7), call, "book acts", HALF, ((1, 3),) * 8)
        self.check_both_ways((0, 1, 3, 4), good_acts, "book acts", HALF, THREE[:2] + ((2, 2),) + THREE[:2])
        self.assertEqual(best_mix(HALF, ((1, 3),) * 8)[0], (5, 3))


class ByCorners(Told, unittest.TestCase):
    def test_safe_unbeaten_open(self):
        for book, acts in choices(101, most_outcomes=5):
            corners = corners_by_hand(book)
            worths = [[worth_by_hand(payoff, corner) for corner in corners] for payoff in acts]
            many = range(len(acts))
            best = max(min(row) for row in worths)
            self.assertEqual(safe_acts(book, acts), tuple(at for at in many if min(worths[at]) == best))
            self.assertEqual(open_acts(book, acts), tuple(at for at in many if max(worths[at]) >= best))
            beaten = [at for at in many for other in many
                      if min(high - low for high, low in zip(worths[other], worths[at])) > 0]
            self.assertEqual(unbeaten_acts(book, acts), tuple(at for at in many if at not in beaten))

    def test_good_acts(self):
        found = {True: 0, False: 0}
        for book, acts in choices(102):
            if book.outcomes > 3 and len(book.quotes) + len(acts) > 6:
                continue
            good = [bool(corners_of_limits(book.outcomes, limits_of(book) + [(less(payoff, other), Fraction(0))
                                                                            for other in acts])) for payoff in acts]
            for told in good:
                found[told] += 1
            self.assertEqual(good_acts(book, acts), tuple(at for at, told in enumerate(good) if told))
        self.assertGreater(min(found.values()), 100)

    def test_either_side(self):
        found = {True: 0, False: 0}
        listed = list(choices(103, most_outcomes=5))
        rng = random.Random(103)
        large = [(book, random_acts(rng, book.outcomes, 8, 1000)) for book in some_books(103)]
        for book, acts in listed + large:
            corners = corners_by_hand(book) if len(book.quotes) < 10 and book.outcomes < 6 else None
            good = good_acts(book, acts)
            for at in range(len(acts)):
                chance, mix = chance_for_act(book, acts, at), beating_mix(book, acts, at)
                self.assertIs(chance is None, mix is not None)
                self.assertIs(at in good, mix is None)
                found[mix is None] += 1
                if mix is None:
                    numbers = fracs(chance)
                    self.assertTrue(keeps_by_hand(book, numbers))
                    worths = [worth_by_hand(payoff, numbers) for payoff in acts]
                    self.assertEqual(worths[at], max(worths))
                    continue
                numbers = fracs(mix)
                self.assertTrue(is_chance(numbers, len(acts)))
                for corner in corners or ():
                    self.assertGreater(mixed_worth(numbers, acts, corner), worth_by_hand(acts[at], corner))
                if corners is None:
                    self.assertTrue(self.beats(book, numbers, acts, at))
        self.assertGreater(min(found.values()), 100)

    def beats(self, book, mix, acts, act):
        """Whether the least worth of a mix less an act is above 0."""
        lead = [sum((share * payoff[at] for share, payoff in zip(mix, acts)), Fraction(0)) - acts[act][at]
                for at in range(book.outcomes)]
        whole = lcm(*(number.denominator for number in lead))
        return least_end(scaled_rows(book), tuple(int(number * whole) for number in lead))[0][0] > 0

    def test_best_mix(self):
        for book, acts in choices(104):
            corners = corners_by_hand(book)
            told, mix = best_mix(book, acts)
            numbers = fracs(mix)
            self.assertTrue(is_chance(numbers, len(acts)))
            self.assertEqual(min(mixed_worth(numbers, acts, corner) for corner in corners), frac(told))
            # At some chance of the set no act, and so no mix, has more.
            held = [(tuple(-number for number in payoff), -frac(told)) for payoff in acts]
            self.assertTrue(corners_of_limits(book.outcomes, limits_of(book) + held))
            self.assertGreaterEqual(frac(told), max(frac(least_worth(book, payoff)) for payoff in acts))

    def test_one_chance_alone(self):
        rng = random.Random(105)
        for outcomes in range(2, 7):
            chance = random_chance(rng, outcomes)
            book, acts = point_book(chance), random_acts(rng, outcomes, 5, 3)
            worths = [worth_by_hand(payoff, chance) for payoff in acts]
            best = tuple(at for at, number in enumerate(worths) if number == max(worths))
            for call in (safe_acts, unbeaten_acts, good_acts, open_acts):
                self.assertEqual(call(book, acts), best)
            self.assertEqual(best_mix(book, acts)[0], pair(max(worths)))

    def test_kinds_within_kinds(self):
        rng = random.Random(106)
        for book in some_books(106):
            acts = random_acts(rng, book.outcomes, 8, rng.choice((2, 1000)))
            unbeaten = set(unbeaten_acts(book, acts))
            self.assertLessEqual(set(safe_acts(book, acts)), unbeaten)
            self.assertLessEqual(set(good_acts(book, acts)), unbeaten)
            self.assertLessEqual(unbeaten, set(open_acts(book, acts)))
            self.assertTrue(safe_acts(book, acts) and good_acts(book, acts))


class Errors(Told, unittest.TestCase):
    def test_acts(self):
        wrong = given(NotABook, NO_BOOKS), indexed(InvalidActs, NO_ACTS)
        for call in BY_ACTS:
            for book in (HALF, BAD):
                self.check_first_errors(call, "book acts", (book, THREE), wrong)

    def test_act(self):
        wrong = given(NotABook, NO_BOOKS), indexed(InvalidActs, NO_ACTS), given(InvalidIndex, no_indexes(3))
        for call in BY_ACT:
            for book in (HALF, BAD):
                self.check_first_errors(call, "book acts act", (book, THREE, 2), wrong)

    def test_not_sound_last(self):
        for book, acts in ((BAD, THREE), (BAD3, FOUR), (BAD6, ((0,) * 6,))):
            for call in BY_ACTS:
                self.check_error_both_ways(NotSound, {}, call, "book acts", book, acts)
            for call in BY_ACT:
                self.check_error_both_ways(NotSound, {}, call, "book acts act", book, acts, 0)

    def test_for_the_outcomes_of_the_book(self):
        self.check_error(InvalidActs, {"index": 0}, safe_acts, RAIN, THREE)
        self.check_error(InvalidActs, {"index": 1}, best_mix, HALF, THREE[:1] + FOUR)

    def test_eight_acts(self):
        acts = tuple((1000 if at == place else -1000) for at in range(8) for place in range(6))
        acts = tuple(acts[at * 6:at * 6 + 6] for at in range(8))
        self.assertEqual(unbeaten_acts(SIX, acts), (0, 1, 2, 3, 4, 5, 6, 7))
        self.assertEqual(good_acts(SIX, acts), (0, 1, 2, 3, 4, 5))
        self.assertEqual(best_mix(SIX, acts), ((-2000, 3), ((1, 6),) * 6 + ((0, 1),) * 2))
        for at in range(8):
            self.assertIs(chance_for_act(SIX, acts, at) is None, at > 5)


if __name__ == "__main__":
    unittest.main()
