import random
import unittest
from fractions import Fraction

from softchances.books import Book
from softchances.errors import InvalidIndex, InvalidPayoff, InvalidSayings, Never, NotABook, NotSound
from softchances.news import greatest_behind, least_behind
from softchances.tellers import bound_to, greatest_told, is_told_nothing, least_told
from tests.tools import (BAD3, BAD6, NO_BOOKS, ODD_VALUES, RAIN, SIX, Told, corners_by_hand, frac, given, indexed,
                         keeps_by_hand, lots_of, never_books, no_indexes, no_payoffs, pair, point_book, random_chance,
                         random_payoff, small_books, worth_by_hand, worths_behind)

ENDS = (least_told, greatest_told)
THIRDS = Book(3, (((1, 0, 0), (1, 3)), ((0, 1, 0), (1, 3)), ((0, 0, 1), (1, 3))))
DOORS = ((0, 2), (0, 1))
FIRST = Book.read("3: 1,0,0>=1/1")
EIGHT = ((0,), (1,), (2,), (3,), (4,), (5,), (0, 1), (0, 1, 2, 3, 4, 5))

# Each of these is no sayings for three outcomes, with the index that is told.
NO_SAYINGS = (
    ((), None), (((0, 1, 2),), None), ([(0, 1), (2,)], None), ((None,), None), (((0,), (1,)), None),
    (((0, 1), (0,)), None), (((2,), (1,), (1, 2)), None), ((None, None), 0), (((), (0, 1, 2)), 0),
    (((3,), (0, 1, 2)), 0), (([0, 1], (2,)), 0), (((1, 0), (2,)), 0), (((True,), (0, 2)), 0), ((0, (1, 2)), 0),
    (((0, 1, 2), ()), 1), (((0, 1, 2), (0, 1, 2)), 1), (((0, 1), (0, 1), (2,)), 1), (((0, 1), (3,)), 1),
    (((0, 1), None), 1), (((0, 1), [2]), 1), (((0,), (False,), (1, 2)), 1), (((0,), (1, 2), (0,)), 2),
    (((0,), (1,), "2"), 2), (((0,), (1,), (2,), (2,)), 3), (((0,), (1,), (2,), (0, 1), ()), 4)) + tuple(
        (value, None) for value in ODD_VALUES)


def random_sayings(rng, outcomes):
    """Some sayings, one of which each outcome is in."""
    lots = lots_of(outcomes)[1:]
    while True:
        many = rng.randint(2, min(8, len(lots)))
        chosen = tuple(rng.sample(lots, many))
        if set().union(*chosen) == set(range(outcomes)):
            return chosen


def bound_by_hand(sayings, saying):
    """The outcomes that are in this saying alone."""
    others = set().union(*(lot for at, lot in enumerate(sayings) if at != saying))
    return tuple(at for at in sayings[saying] if at not in others)


def worths_told(corners, sayings, saying, payoff):
    """The worths behind all lots of what is bound to the saying and some of its other outcomes."""
    bound = set(bound_by_hand(sayings, saying))
    lots = [lot for lot in lots_of(len(payoff)) if bound <= set(lot) <= set(sayings[saying])]
    return [number for lot in lots for number in worths_behind(corners, lot, payoff)]


def all_books(seed):
    """Books with corners that can be found by hand."""
    yield from small_books(seed, most_outcomes=5)
    yield from never_books(seed)


class ByHand(Told, unittest.TestCase):
    def test_doors(self):
        names = "book sayings saying payoff"
        self.check_both_ways((2,), bound_to, "book sayings saying", THIRDS, DOORS, 0)
        self.check_both_ways((1,), bound_to, "book sayings saying", THIRDS, DOORS, 1)
        self.check_both_ways((0, 1), least_told, names, THIRDS, DOORS, 0, (1, 0, 0))
        self.check_both_ways((1, 2), greatest_told, names, THIRDS, DOORS, 0, (1, 0, 0))
        self.check_both_ways((1, 2), least_told, names, THIRDS, DOORS, 0, (0, 0, 1))
        self.check_both_ways((1, 1), greatest_told, names, THIRDS, DOORS, 0, (0, 0, 1))
        self.check_both_ways((0, 1), greatest_told, names, THIRDS, DOORS, 0, (0, 1, 0))
        self.check_both_ways(True, is_told_nothing, "book sayings payoff", THIRDS, DOORS, (1, 0, 0))
        self.check_both_ways(False, is_told_nothing, "book sayings payoff", THIRDS, DOORS, (0, 0, 1))

    def test_bound(self):
        for sayings, bound in ((((0,), (1,), (2,)), ((0,), (1,), (2,))), (((0, 1), (1, 2)), ((0,), (2,))),
                               (((0, 1, 2), (0, 1)), ((2,), ())), (((0, 1), (1, 2), (0, 2)), ((), (), ()))):
            for at, lot in enumerate(bound):
                self.check_both_ways(lot, bound_to, "book sayings saying", RAIN, sayings, at)

    def test_questions_are_sayings(self):
        names, lots = "book sayings saying payoff", ((0, 1), (2,))
        for at, lot in enumerate(lots):
            for payoff in ((1, 0, 0), (0, 5, -3)):
                self.check_both_ways(least_behind(RAIN, lot, payoff), least_told, names, RAIN, lots, at, payoff)
                self.check_both_ways(greatest_behind(RAIN, lot, payoff), greatest_told, names, RAIN, lots, at, payoff)

    def test_nothing_bound(self):
        # If nothing is bound, the saying may be kept for the worst outcome alone.
        sayings, names = ((0, 1), (1, 2), (0, 2)), "book sayings saying payoff"
        self.check_both_ways((3, 1), least_told, names, RAIN, sayings, 0, (5, 3, 1))
        self.check_both_ways((5, 1), greatest_told, names, RAIN, sayings, 0, (5, 3, 1))
        # Unless this one can not come.
        self.check_both_ways((5, 1), least_told, names, FIRST, sayings, 0, (5, 3, 1))

    def test_what_can_not_be_said(self):
        names = "book sayings saying payoff"
        for call in ENDS:
            self.check_error_both_ways(Never, {}, call, names, FIRST, ((0, 1), (1, 2)), 1, (1, 0, 0))
            self.check_both_ways((1, 1), call, names, FIRST, ((0, 1), (0, 2)), 1, (1, 7, 7))
        self.check_both_ways(True, is_told_nothing, "book sayings payoff", FIRST, ((0, 1), (1, 2)), (1, 7, 7))
        self.check_both_ways((1, 2), bound_to, "book sayings saying", FIRST, ((0,), (1, 2)), 1)

    def test_eight_sayings(self):
        payoff = (1000, -1000, 3, 2, 1, 0)
        self.check_both_ways((-1000, 1), least_told, "book sayings saying payoff", SIX, EIGHT, 7, payoff)
        self.check_both_ways((3, 1), greatest_told, "book sayings saying payoff", SIX, EIGHT, 2, payoff)
        self.check_both_ways((), bound_to, "book sayings saying", SIX, EIGHT, 7)
        self.check_both_ways(False, is_told_nothing, "book sayings payoff", SIX, EIGHT, payoff)


class ByCorners(Told, unittest.TestCase):
    def test_ends(self):
        rng = random.Random(91)
        never = 0
        for book in all_books(91):
            corners = corners_by_hand(book)
            for _ in range(3):
                sayings = random_sayings(rng, book.outcomes)
                for at in range(len(sayings)):
                    payoff = random_payoff(rng, book.outcomes, rng.choice((1, 4, 1000)))
                    self.assertEqual(bound_to(book, sayings, at), bound_by_hand(sayings, at))
                    worths = worths_told(corners, sayings, at, payoff)
                    if not worths:
                        never += 1
                        for call in ENDS:
                            self.check_error(Never, {}, call, book, sayings, at, payoff)
                        continue
                    self.assertEqual(least_told(book, sayings, at, payoff), pair(min(worths)))
                    self.assertEqual(greatest_told(book, sayings, at, payoff), pair(max(worths)))
        self.assertGreater(never, 20)

    def test_told_nothing(self):
        rng = random.Random(92)
        found = {True: 0, False: 0}
        for book in all_books(92):
            corners = corners_by_hand(book)
            for _ in range(2):
                sayings, payoff = random_sayings(rng, book.outcomes), random_payoff(rng, book.outcomes)
                worths = [worth_by_hand(payoff, corner) for corner in corners]
                told = [worths_told(corners, sayings, at, payoff) for at in range(len(sayings))]
                nothing = all(min(some) <= min(worths) and max(some) >= max(worths) for some in told if some)
                found[nothing] += 1
                self.assertIs(is_told_nothing(book, sayings, payoff), nothing)
        self.assertGreater(min(found.values()), 20)

    def test_any_way_of_choosing(self):
        # A chance of the set and a way of choosing never lead beyond the ends.
        rng = random.Random(93)
        for book in all_books(93):
            corners = corners_by_hand(book)
            sayings, payoff = random_sayings(rng, book.outcomes), random_payoff(rng, book.outcomes)
            for _ in range(5):
                shares = random_chance(rng, len(corners))
                chance = [sum((share * corner[at] for share, corner in zip(shares, corners)), Fraction(0))
                          for at in range(book.outcomes)]
                self.assertTrue(keeps_by_hand(book, chance))
                ways = [random_chance(rng, sum(at in lot for lot in sayings)) for at in range(book.outcomes)]
                for index, lot in enumerate(sayings):
                    said = [number * ways[at][sum(at in other for other in sayings[:index])] if at in lot else 0
                            for at, number in enumerate(chance)]
                    if sum(said) == 0:
                        continue
                    worth = worth_by_hand(payoff, said) / sum(said)
                    self.assertLessEqual(frac(least_told(book, sayings, index, payoff)), worth)
                    self.assertGreaterEqual(frac(greatest_told(book, sayings, index, payoff)), worth)

    def test_one_chance_alone(self):
        rng = random.Random(94)
        for outcomes in range(2, 7):
            chance = random_chance(rng, outcomes, 2)
            book, sayings = point_book(chance), random_sayings(rng, outcomes)
            payoff = random_payoff(rng, outcomes, 1000)
            for at in range(len(sayings)):
                worths = worths_told([chance], sayings, at, payoff)
                if worths:
                    self.assertEqual(least_told(book, sayings, at, payoff), pair(min(worths)))
                    self.assertEqual(greatest_told(book, sayings, at, payoff), pair(max(worths)))
                else:
                    self.check_error(Never, {}, least_told, book, sayings, at, payoff)


class Errors(Told, unittest.TestCase):
    wrong = (given(NotABook, NO_BOOKS), indexed(InvalidSayings, NO_SAYINGS), given(InvalidIndex, no_indexes(2)))
    wrong_payoffs = (given(InvalidPayoff, no_payoffs(3)),)

    def test_bound(self):
        for book in (RAIN, BAD3):
            self.check_first_errors(bound_to, "book sayings saying", (book, DOORS, 1), self.wrong)

    def test_ends(self):
        for call in ENDS:
            for book in (RAIN, FIRST, BAD3):
                self.check_first_errors(call, "book sayings saying payoff", (book, ((0, 1), (1, 2)), 1, (1, 2, 3)),
                                        self.wrong + self.wrong_payoffs)

    def test_nothing(self):
        for book in (RAIN, BAD3):
            self.check_first_errors(is_told_nothing, "book sayings payoff", (book, DOORS, (1, 2, 3)),
                                    self.wrong[:2] + self.wrong_payoffs)

    def test_not_sound_last_ahead_of_never(self):
        self.check_error_both_ways(NotSound, {}, bound_to, "book sayings saying", BAD3, DOORS, 0)
        for call in ENDS:
            self.check_error_both_ways(NotSound, {}, call, "book sayings saying payoff", BAD3, ((0, 1), (1, 2)), 1,
                                       (1, 2, 3))
        self.check_error_both_ways(NotSound, {}, is_told_nothing, "book sayings payoff", BAD3, DOORS, (1, 2, 3))

    def test_the_ninth(self):
        for ninth in ((2, 3), (0,), None, 5):
            for book in (SIX, BAD6):
                self.check_error(InvalidSayings, {"index": 8}, bound_to, book, EIGHT + (ninth,), 0)
                self.check_error(InvalidSayings, {"index": 8}, is_told_nothing, book, EIGHT + (ninth,) * 3, (0,) * 6)
        self.check_error(InvalidSayings, {"index": 7}, bound_to, SIX, EIGHT[:7] + (None, (2, 3)), 0)
        self.check_error(InvalidSayings, {"index": 8}, bound_to, SIX, EIGHT[:7] + ((0, 2), (1, 3)), 0)
        # That an outcome is in none is told behind the elements.
        self.check_error(InvalidSayings, {"index": None}, bound_to, SIX, ((0,), (1, 2, 3, 4)), 9)

    def test_indexes(self):
        for at in range(8):
            self.assertEqual(bound_to(SIX, EIGHT, at), ())
        for value in no_indexes(8):
            self.check_error(InvalidIndex, {"given": value}, bound_to, SIX, EIGHT, value)


if __name__ == "__main__":
    unittest.main()
