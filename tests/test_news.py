import random
import unittest
from fractions import Fraction

from softchances.books import Book
from softchances.errors import (InvalidLot, InvalidPayoff, InvalidQuestion, Never, NotABook, NotSound, TooGreat)
from softchances.news import chances_behind, greatest_behind, least_behind, least_by_question, widens
from softchances.tight import follows
from softchances.worths import greatest_worth, least_worth
from tests.tools import (BAD, BAD3, BAD6, HALF, NO_BOOKS, ODD_VALUES, RAIN, SIX, Told, all_behind, corners_by_hand,
                         frac, fracs, given, indexed, lots_of, never_books, no_lots, no_payoffs, pair, pairs,
                         point_book, random_chance, random_payoff, small_books, some_books, sound_book, worth_by_hand,
                         worths_behind)

ENDS = (least_behind, greatest_behind)
COINS = Book(4, (((1, 1, 0, 0), (1, 2)), ((-1, -1, 0, 0), (-1, 2)),
                 ((1, 0, 1, 0), (1, 2)), ((-1, 0, -1, 0), (-1, 2))))
FIRST = Book.read("3: 1,0,0>=1/1")
ASKED = ((0, 1), (2,))

# Each of these is no question for three outcomes, with the index that is told.
NO_QUESTIONS = (
    ((), None), (((0, 1, 2),), None), ([(0, 1), (2,)], None), ((None,), None), (((0,), (1,)), None),
    (((2,), (1,)), None), (((0,), (2,)), None), ((None, None), 0), (((), (0, 1, 2)), 0), (((3,), (0, 1, 2)), 0),
    (([0, 1], (2,)), 0), (((1, 0), (2,)), 0), (((0, 0), (1, 2)), 0), (((True,), (0, 2)), 0), ((0, (1, 2)), 0),
    (((0, 1, 2), ()), 1), (((0, 1), (1, 2)), 1), (((0, 1), (0,)), 1), (((0, 1), (3,)), 1), (((0, 1), None), 1),
    (((0, 1), [2]), 1), (((0, 1), (2, 3)), 1), (((0,), (False,), (1, 2)), 1), (((0,), (1,), (1,)), 2),
    (((0,), (1,), ()), 2), (((0,), (1,), "2"), 2), (((0,), (1,), (2,), (2,)), 3), (((0,), (1,), (2,), ()), 3),
    (((0, 1), (2,), (0, 1, 2)), 2)) + tuple((value, None) for value in ODD_VALUES)


def questions_of(outcomes):
    """All questions, their lots in ascending order."""
    grown = [[]]
    for at in range(outcomes):
        grown = [parts[:place] + [parts[place] + (at,)] + parts[place + 1:] if place < len(parts) else parts + [(at,)]
                 for parts in grown for place in range(len(parts) + 1)]
    return [tuple(parts) for parts in grown if len(parts) > 1]


def widens_by_hand(corners, question, payoff):
    """Whether behind each lot that may come both ends lie further out."""
    worths = [worth_by_hand(payoff, corner) for corner in corners]
    behind = [found for found in (worths_behind(corners, lot, payoff) for lot in question) if found]
    return all(min(found) < min(worths) and max(found) > max(worths) for found in behind)


def two_coins(rng):
    """Two coins of which nothing is known but bounds for each, and a payoff by the first one."""
    quotes = []
    for payoff in ((1, 1, 0, 0), (1, 0, 1, 0)):
        low = rng.randint(0, 9)
        high = rng.randint(low, min(low + 2, 10))
        quotes += [(payoff, pair(Fraction(low, 10))), (tuple(-one for one in payoff), pair(Fraction(-high, 10)))]
    win, lose = rng.randint(-3, 3), rng.randint(-3, 3)
    return Book(4, tuple(quotes)), (win, win, lose, lose)


def all_books(seed):
    """Books with corners that can be found by hand."""
    yield from small_books(seed, most_outcomes=5)
    yield from never_books(seed)


class ByHand(Told, unittest.TestCase):
    def test_ends(self):
        for lot, payoff, least, greatest in (
                ((0, 1), (1, 0, 0), (4, 9), (2, 3)), ((0, 1), (0, 1, 0), (1, 3), (5, 9)),
                ((2,), (1, 2, 3), (3, 1), (3, 1)), ((0, 1, 2), (6, 0, -6), (-1, 2), (3, 2)),
                ((0, 1), (1, 1, -1000), (1, 1), (1, 1)),
                ((1, 2), (1000, 1, 0), (3, 8), (5, 8))):
            self.check_both_ways(least, least_behind, "book lot payoff", RAIN, lot, payoff)
            self.check_both_ways(greatest, greatest_behind, "book lot payoff", RAIN, lot, payoff)

    def test_coins(self):
        self.check_both_ways((0, 1), least_behind, "book lot payoff", COINS, (0, 2), (1, 1, 0, 0))
        self.check_both_ways((1, 1), greatest_behind, "book lot payoff", COINS, (0, 2), (1, 1, 0, 0))
        self.check_both_ways((1, 2), least_behind, "book lot payoff", COINS, (0, 3), (1, -1, 1, 0))
        self.check_both_ways(True, widens, "book question payoff", COINS, ((0, 2), (1, 3)), (1, 1, 0, 0))
        self.check_both_ways(False, widens, "book question payoff", COINS, ((0, 3), (1, 2)), (1, 1, 0, 0))
        self.check_both_ways(False, widens, "book question payoff", COINS, ((0, 1), (2, 3)), (1, 1, 0, 0))
        self.check_both_ways(False, widens, "book question payoff", COINS, ((0, 2), (1, 3)), (1, 1, 1, 1))
        self.check_both_ways((0, 1), least_by_question, "book question payoff", COINS, ((0, 2), (1, 3)), (1, 1, 0, 0))

    def test_what_may_not_come(self):
        self.check_both_ways((1, 1), least_behind, "book lot payoff", FIRST, (0, 2), (1, 0, 0))
        for call in ENDS:
            self.check_error_both_ways(Never, {}, call, "book lot payoff", FIRST, (1, 2), (1, 0, 0))
        self.check_both_ways((1, 1), least_by_question, "book question payoff", FIRST, ((0,), (1, 2)), (1, 5, -5))
        self.check_both_ways(False, widens, "book question payoff", FIRST, ((0,), (1, 2)), (1, 0, 0))
        # The lot has a chance at some chances alone: those without one tell nothing.
        free = Book(3, ())
        self.check_both_ways((2, 1), least_behind, "book lot payoff", free, (1, 2), (-9, 2, 3))
        self.check_both_ways((3, 1), greatest_behind, "book lot payoff", free, (1, 2), (9, 2, 3))
        half = Book.read("3: 0,1,-1>=0/1")
        self.check_both_ways((5, 2), least_behind, "book lot payoff", half, (1, 2), (-9, 3, 2))
        self.check_both_ways((3, 1), greatest_behind, "book lot payoff", half, (1, 2), (9, 3, 2))

    def test_chances_behind(self):
        self.check_both_ways((((4, 9), (5, 9), (0, 1)), ((4, 7), (3, 7), (0, 1)), ((2, 3), (1, 3), (0, 1))),
                             chances_behind, "book lot", RAIN, (0, 1))
        self.check_both_ways((((0, 1), (0, 1), (1, 1)),), chances_behind, "book lot", RAIN, (2,))
        self.check_both_ways((((1, 1), (0, 1), (0, 1)),), chances_behind, "book lot", FIRST, (0, 1, 2))
        self.check_error_both_ways(Never, {}, chances_behind, "book lot", FIRST, (1, 2))

    def test_least_by_question(self):
        self.check_both_ways((0, 1), least_by_question, "book question payoff", RAIN, ASKED, (1, 0, 0))
        self.check_both_ways((4, 9), least_by_question, "book question payoff", RAIN, ASKED, (1, 0, 1))
        self.check_both_ways((-4, 1), least_by_question, "book question payoff", RAIN, ((2,), (1,), (0,)), (3, -4, 1))

    def test_six_outcomes(self):
        sixth = Book.read("6: 1,1,1,1,1,0>=1/1 1,0,0,0,0,0>=1/2")
        self.check_both_ways((0, 1), least_behind, "book lot payoff", sixth, (1, 2), (3, 0, 4, 0, 0, 0))
        self.check_both_ways((3, 2), least_behind, "book lot payoff", sixth, (0, 1), (3, 0, 4, 0, 0, 0))
        self.check_both_ways((0, 1), least_by_question, "book question payoff", sixth,
                             ((5,), (0, 4), (1, 2, 3)), (3, 0, 4, 0, 0, -1000))


class ByCorners(Told, unittest.TestCase):
    def test_ends(self):
        rng = random.Random(81)
        never = 0
        for book in all_books(81):
            corners = corners_by_hand(book)
            for lot in lots_of(book.outcomes):
                payoff = random_payoff(rng, book.outcomes, rng.choice((1, 4, 1000)))
                worths = worths_behind(corners, lot, payoff)
                if not worths:
                    never += 1
                    for call in ENDS:
                        self.check_error(Never, {}, call, book, lot, payoff)
                    continue
                self.assertEqual(least_behind(book, lot, payoff), pair(min(worths)))
                self.assertEqual(greatest_behind(book, lot, payoff), pair(max(worths)))
        self.assertGreater(never, 100)

    def test_six_outcomes(self):
        rng = random.Random(82)
        for many in (0, 2, 4):
            book = sound_book(rng, 6, many)
            corners = corners_by_hand(book)
            for lot in rng.sample(lots_of(6), 12):
                payoff = random_payoff(rng, 6)
                worths = worths_behind(corners, lot, payoff)
                if worths:
                    self.assertEqual(least_behind(book, lot, payoff), pair(min(worths)))
                    self.assertEqual(greatest_behind(book, lot, payoff), pair(max(worths)))
                else:
                    self.check_error(Never, {}, least_behind, book, lot, payoff)

    def test_chances_behind(self):
        for book in all_books(83):
            corners = corners_by_hand(book)
            for lot in lots_of(book.outcomes):
                behind = sorted(set(all_behind(corners, lot)))
                if behind:
                    self.assertEqual([fracs(chance) for chance in chances_behind(book, lot)], behind)
                    self.assertIs(type(chances_behind(book, lot)), tuple)
                else:
                    self.check_error(Never, {}, chances_behind, book, lot)

    def test_one_chance_alone(self):
        rng = random.Random(84)
        for outcomes in range(2, 7):
            chance = random_chance(rng, outcomes, 2)
            book = point_book(chance)
            for lot in lots_of(outcomes):
                payoff = random_payoff(rng, outcomes, 1000)
                for behind in all_behind([chance], lot):
                    only = pair(worth_by_hand(payoff, behind))
                    self.assertEqual(least_behind(book, lot, payoff), only)
                    self.assertEqual(greatest_behind(book, lot, payoff), only)
                    if outcomes < 6:
                        self.assertEqual(chances_behind(book, lot), (pairs(behind),))

    def test_simple_lots(self):
        rng = random.Random(85)
        for book in some_books(85):
            payoff = random_payoff(rng, book.outcomes, 1000)
            whole = tuple(range(book.outcomes))
            self.assertEqual(least_behind(book, whole, payoff), least_worth(book, payoff))
            self.assertEqual(greatest_behind(book, whole, payoff), greatest_worth(book, payoff))
            for call in ENDS:
                self.check_error(Never, {}, call, book, (), payoff)
                for at in whole:
                    if greatest_worth(book, tuple(int(place == at) for place in whole)) == (0, 1):
                        self.check_error(Never, {}, call, book, (at,), payoff)
                    else:
                        self.assertEqual(call(book, (at,), payoff), (payoff[at], 1))

    def test_questions(self):
        rng = random.Random(86)
        found = {True: 0, False: 0}
        for book in [COINS, RAIN, HALF] + list(all_books(86)):
            corners = corners_by_hand(book)
            asked = questions_of(book.outcomes)
            for question in rng.sample(asked, min(len(asked), 6)):
                question = tuple(rng.sample(question, len(question)))
                payoff = random_payoff(rng, book.outcomes, rng.choice((1, 4)))
                told = widens_by_hand(corners, question, payoff)
                found[told] += 1
                self.assertIs(widens(book, question, payoff), told)
                least = min(min(worths) for lot in question if (worths := worths_behind(corners, lot, payoff)))
                self.assertEqual(least_by_question(book, question, payoff), pair(least))
        for _ in range(40):
            book, payoff = two_coins(rng)
            corners = corners_by_hand(book)
            for question in (((0, 2), (1, 3)), ((0, 3), (1, 2)), ((0, 1), (2, 3)), ((2,), (0, 1, 3))):
                told = widens_by_hand(corners, question, payoff)
                found[told] += 1
                self.assertIs(widens(book, question, payoff), told)
        self.assertGreater(min(found.values()), 20)

    def test_questions_that_widen_no_payoff(self):
        # One chance alone leaves the worth of the whole between those behind the lots.
        rng = random.Random(87)
        for outcomes in (2, 3, 4, 6):
            book = point_book(random_chance(rng, outcomes))
            for question in rng.sample(questions_of(outcomes), min(6, len(questions_of(outcomes)))):
                self.assertIs(widens(book, question, random_payoff(rng, outcomes)), False)
        for at in range(4):
            payoff = tuple(int(place == at) for place in range(4))
            for question in questions_of(4):
                self.assertIs(widens(Book(4, ()), question, payoff), False)

    def test_what_follows(self):
        # A payoff less a number, on the lot alone, is worth 0 up to the least worth behind the news.
        rng = random.Random(88)
        for book in all_books(88):
            for lot in lots_of(book.outcomes):
                payoff = random_payoff(rng, book.outcomes, 4)
                try:
                    least = frac(least_behind(book, lot, payoff))
                except Never:
                    continue
                for bottom in (1, 7, 30):
                    level = Fraction((least * bottom).__floor__(), bottom)
                    for number in (level, level + Fraction(1, bottom)):
                        left = tuple(int((one - number) * number.denominator) if at in lot else 0
                                     for at, one in enumerate(payoff))
                        self.assertIs(follows(book, left, (0, 1)), number <= least)


class Errors(Told, unittest.TestCase):
    def test_ends(self):
        wrong = given(NotABook, NO_BOOKS), given(InvalidLot, no_lots(3)), given(InvalidPayoff, no_payoffs(3))
        for call in ENDS:
            for book in (RAIN, FIRST, BAD3):
                for lot in ((0, 1), (1,), ()):
                    self.check_first_errors(call, "book lot payoff", (book, lot, (1, 2, 3)), wrong)

    def test_chances(self):
        wrong = given(NotABook, NO_BOOKS), given(InvalidLot, no_lots(3))
        for book in (RAIN, FIRST, BAD3):
            self.check_first_errors(chances_behind, "book lot", (book, (1,)), wrong)
        self.check_error(InvalidLot, {"given": (6,)}, chances_behind, BAD6, (6,))

    def test_questions(self):
        wrong = given(NotABook, NO_BOOKS), indexed(InvalidQuestion, NO_QUESTIONS), given(InvalidPayoff, no_payoffs(3))
        for call in (widens, least_by_question):
            for book in (RAIN, BAD3):
                self.check_first_errors(call, "book question payoff", (book, ASKED, (1, 2, 3)), wrong)

    def test_not_sound_last_and_never_behind(self):
        for lot in ((), (0,), (0, 1, 2)):
            for call in ENDS:
                self.check_error_both_ways(NotSound, {}, call, "book lot payoff", BAD3, lot, (1, 2, 3))
            self.check_error_both_ways(NotSound, {}, chances_behind, "book lot", BAD3, lot)
            self.check_error_both_ways(Never, {}, chances_behind, "book lot", RAIN, ())
        for call in (widens, least_by_question):
            self.check_error_both_ways(NotSound, {}, call, "book question payoff", BAD3, ASKED, (1, 2, 3))
            self.check_error_both_ways(NotSound, {}, call, "book question payoff", BAD, ((1,), (0,)), (1, 2))

    def test_too_great_behind_all(self):
        first = SIX.with_quote((1, 0, 0, 0, 0, 0), (1, 1))
        self.check_error_both_ways(NotSound, {}, chances_behind, "book lot", BAD6, (1,))
        self.check_error_both_ways(Never, {}, chances_behind, "book lot", first, (1, 2))
        self.check_error_both_ways(Never, {}, chances_behind, "book lot", SIX, ())
        self.check_error_both_ways(TooGreat, {"given": 6}, chances_behind, "book lot", first, (0, 2))
        self.check_error_both_ways(TooGreat, {"given": 6}, chances_behind, "book lot", SIX, (5,))
        self.assertEqual(least_behind(SIX, (4, 5), (0, 0, 0, 0, 7, 1000)), (7, 1))

    def test_right_questions(self):
        singles = tuple((at,) for at in range(6))
        for question in (singles, singles[::-1], ((0, 5), (1, 4), (2, 3)), ((1, 2, 3, 4, 5), (0,))):
            self.assertEqual(least_by_question(SIX, question, (1000, 0, 5, 2, 1, -1000)), (-1000, 1))
        self.check_both_ways(False, widens, "book question payoff", HALF, ((1,), (0,)), (1000, -1000))


if __name__ == "__main__":
    unittest.main()
