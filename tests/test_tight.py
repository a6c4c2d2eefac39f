import random
import unittest
from fractions import Fraction
from itertools import combinations

from softchances.books import Book
from softchances.errors import (InvalidFraction, InvalidIndex, InvalidPayoff, NotABook, NotSound, TooGreat, Unlike)
from softchances.tight import (are_alike, follows, is_needless, is_tight, is_within, least_quotes, needless,
                               parting_chance, tight_prices)
from softchances.worths import least_worth
from tests.tools import (BAD, BAD3, BAD6, HALF, MORE, NO_BOOKS, NO_PRICES, RAIN, SIX, Told, corners_by_hand, frac,
                         fracs, keeps_by_hand, no_indexes, no_payoffs, pair, point_book, random_payoff, small_books,
                         some_books, sound_book, worth_by_hand)

BY_INDEX = (is_tight, is_needless)
BY_BOOK = (tight_prices, needless, least_quotes)
BY_TWO = (is_within, are_alike, parting_chance)


def chosen(book, indexes):
    """The book with these quotes alone."""
    return Book(book.outcomes, tuple(book.quotes[at] for at in indexes))


def times(book, factor):
    """The book with all payoffs and prices so many times as great."""
    return Book(book.outcomes, tuple((tuple(number * factor for number in payoff), pair(Fraction(*price) * factor))
                                     for payoff, price in book.quotes))


def raised(book, number):
    """The book with a number added to all payoffs and prices."""
    return Book(book.outcomes, tuple((tuple(one + number for one in payoff), pair(Fraction(*price) + number))
                                     for payoff, price in book.quotes))


def weaker(book, number):
    """The book with a number taken from all prices."""
    return Book(book.outcomes, tuple((payoff, pair(Fraction(*price) - number)) for payoff, price in book.quotes))


def least_quotes_by_hand(book):
    """All choices of as few quotes as can be, by the corners of all choices."""
    many, whole = len(book.quotes), corners_by_hand(book)
    for size in range(many + 1):
        found = tuple(pick for pick in combinations(range(many), size)
                      if corners_by_hand(chosen(book, pick)) == whole)
        if found:
            return found
    return None


class ByHand(Told, unittest.TestCase):
    def test_tight(self):
        self.check_both_ways(True, is_tight, "book index", MORE, 0)
        self.check_both_ways(False, is_tight, "book index", MORE, 3)
        self.check_both_ways(((1, 3), (1, 4), (1, 4), (7, 12)), tight_prices, "book", MORE)
        self.check_both_ways((), tight_prices, "book", SIX)
        self.check_both_ways(False, is_tight, "book index", Book.read("2: 1,0>=-1/1"), 0)
        self.check_both_ways(((0, 1),), tight_prices, "book", Book.read("2: 1,0>=-1/1"))

    def test_needless(self):
        self.check_both_ways((3,), needless, "book", MORE)
        self.check_both_ways(False, is_needless, "book index", MORE, 0)
        self.check_both_ways(True, is_needless, "book index", MORE, 3)
        self.check_both_ways((0,), needless, "book", Book.read("2: 1,0>=0/1 1,0>=1/2"))
        # A tight quote may be needless, too.
        self.check_both_ways((0, 1), needless, "book", Book.read("2: 1,0>=1/2 1,0>=1/2"))
        self.check_both_ways((), needless, "book", Book(4, ()))

    def test_least_quotes(self):
        self.check_both_ways(((0, 1, 2),), least_quotes, "book", MORE)
        self.check_both_ways(((),), least_quotes, "book", SIX)
        self.check_both_ways(((),), least_quotes, "book", Book.read("3: 1,0,0>=0/1 1,1,1>=1/1 2,0,-5>=-5/1"))
        self.check_both_ways(((0,), (1,)), least_quotes, "book", Book.read("2: 1,0>=1/2 1,0>=1/2"))
        self.check_both_ways(((0, 2), (1, 2), (2, 3)), least_quotes, "book",
                             Book.read("2: 1,0>=1/2 2,0>=1/1 0,1>=1/4 1,-1>=0/1"))

    def test_fewer_needless_quotes_than_it_seems(self):
        # Each of these four is needless by itself, two are enough.
        book = Book.read("2: 1,0>=1/3 0,1>=1/3 1,-1>=-1/3 -1,1>=-1/3")
        self.assertEqual(needless(book), (0, 1, 2, 3))
        self.assertEqual(least_quotes(book), ((0, 1), (0, 3), (1, 2), (2, 3)))
        # One quote may say what takes two others.
        book = Book.read("2: 1,0>=1/1 0,1>=0/1 0,-1>=0/1 1,-1>=1/1")
        self.assertEqual(least_quotes(book), ((0,), (2,), (3,)))

    def test_follows(self):
        self.check_both_ways(True, follows, "book payoff price", RAIN, (1, 1, 0), (7, 12))
        self.check_both_ways(False, follows, "book payoff price", RAIN, (1, 1, 0), (3, 5))
        self.check_both_ways(True, follows, "book payoff price", RAIN, (1, 1, 0), (1, 2))
        self.check_both_ways(True, follows, "book payoff price", SIX, (1,) * 6, (1, 1))
        self.check_both_ways(False, follows, "book payoff price", SIX, (1,) * 6, (1001, 1000))

    def test_two_books(self):
        self.check_both_ways(True, is_within, "book other", RAIN, Book(3, ()))
        self.check_both_ways(False, is_within, "book other", Book(3, ()), RAIN)
        self.check_both_ways(True, is_within, "book other", RAIN, MORE)
        self.check_both_ways(True, are_alike, "book other", RAIN, MORE)
        self.check_both_ways(False, are_alike, "book other", RAIN, Book(3, ()))
        self.check_both_ways(None, parting_chance, "book other", RAIN, MORE)
        self.check_both_ways(None, parting_chance, "book other", SIX, SIX)


class Single(Told, unittest.TestCase):
    def test_tight_prices(self):
        for book in some_books(31):
            prices = tuple(least_worth(book, payoff) for payoff, _ in book.quotes)
            self.assertEqual(tight_prices(book), prices)
            for at, (_, price) in enumerate(book.quotes):
                self.assertIs(is_tight(book, at), price == prices[at])
                self.assertLessEqual(frac(price), frac(prices[at]))

    def test_needless_by_hand(self):
        for book in small_books(32):
            if len(book.quotes) > 9:
                continue
            whole = corners_by_hand(book)
            by_hand = tuple(at for at in range(len(book.quotes)) if corners_by_hand(book.without(at)) == whole)
            self.assertEqual(needless(book), by_hand)
            for at in range(len(book.quotes)):
                self.assertIs(is_needless(book, at), at in by_hand)

    def test_needless_is_what_follows(self):
        for book in some_books(33):
            if book.outcomes < 5 and len(book.quotes) > 10:
                continue
            by_rest = tuple(at for at, quote in enumerate(book.quotes) if follows(book.without(at), *quote))
            self.assertEqual(needless(book), by_rest)

    def test_not_tight_is_needless(self):
        for book in some_books(34):
            told = needless(book)
            for at in range(len(book.quotes)):
                if not is_tight(book, at):
                    self.assertIn(at, told)

    def test_weaker_quotes(self):
        for book in (RAIN, HALF, MORE):
            low = weaker(book, Fraction(1, 7))
            both = Book(book.outcomes, book.quotes + low.quotes)
            many = len(book.quotes)
            self.assertTrue(set(range(many, 2 * many)) <= set(needless(both)))
            self.assertFalse(any(is_tight(both, at) for at in range(many, 2 * many)))
            self.assertEqual(least_quotes(both), least_quotes(book))


class Fewest(Told, unittest.TestCase):
    def test_by_hand(self):
        rng = random.Random(35)
        for outcomes, many in ((2, 4), (2, 6), (3, 3), (3, 5), (4, 4), (5, 3)):
            for slack in (0, 1, 4):
                book = sound_book(rng, outcomes, many, most=2, slack=slack)
                self.assertEqual(least_quotes(book), least_quotes_by_hand(book), str(book))

    def test_flat_sets(self):
        for text in ("2: 1,0>=1/2 -1,0>=-1/2 0,1>=1/2", "3: 1,0,0>=1/2 0,1,0>=1/2 0,0,1>=0/1 -1,0,0>=-1/2",
                     "3: 1,-1,0>=0/1 -1,1,0>=0/1 0,1,-1>=0/1 0,-1,1>=0/1 -1,0,1>=0/1",
                     "3: 1,1,0>=1/1 1,0,1>=1/1 0,0,-1>=0/1", "4: 1,1,0,0>=1/1 1,0,1,0>=1/1 1,0,0,0>=1/1"):
            book = Book.read(text)
            self.assertEqual(least_quotes(book), least_quotes_by_hand(book), text)

    def test_quotes_that_stand_twice(self):
        for outcomes in range(2, 7):
            quotes = tuple((tuple(int(at == place) for at in range(outcomes)), (1, 10)) for place in range(outcomes))
            self.assertEqual(least_quotes(Book(outcomes, quotes)), (tuple(range(outcomes)),))
            double = Book(outcomes, quotes[:5] * 2)
            told, many = least_quotes(double), min(outcomes, 5)
            self.assertEqual(len(told), 2 ** many)
            self.assertTrue(all(one < two for one, two in zip(told, told[1:])))
            self.assertEqual({tuple(sorted(at % many for at in pick)) for pick in told}, {tuple(range(many))})

    def test_larger_books(self):
        rng = random.Random(36)
        for outcomes in (4, 5, 6):
            for many in (8, 9, 10):
                book = sound_book(rng, outcomes, many)
                told = least_quotes(book)
                self.assertTrue(told and all(one < two for one, two in zip(told, told[1:])))
                for pick in told:
                    self.assertEqual(len(pick), len(told[0]))
                    self.assertTrue(is_within(chosen(book, pick), book))
                    for at in pick:
                        rest = tuple(place for place in pick if place != at)
                        self.assertFalse(is_within(chosen(book, rest), book))

    def test_too_many_quotes(self):
        rng = random.Random(37)
        for outcomes in (2, 6):
            for many in (11, 12, 32):
                book = sound_book(rng, outcomes, many)
                self.check_error_both_ways(TooGreat, {"given": many}, least_quotes, "book", book)
            self.assertTrue(least_quotes(Book(outcomes, book.quotes[:10])))
        bad = Book(2, BAD.quotes * 6)
        self.check_error_both_ways(NotSound, {}, least_quotes, "book", bad)


class Follows(Told, unittest.TestCase):
    def test_around_the_least_worth(self):
        rng = random.Random(38)
        for book in some_books(38):
            payoff = random_payoff(rng, book.outcomes)
            least = frac(least_worth(book, payoff))
            for bottom in (1, 7, 1000):
                top = (least * bottom).__floor__()
                self.assertIs(follows(book, payoff, pair(Fraction(top, bottom))), True)
                self.assertIs(follows(book, payoff, pair(Fraction(top - 1, bottom))), True)
                self.assertIs(follows(book, payoff, pair(Fraction(top + 1, bottom))), False)
            if least.denominator <= 1000:
                self.assertIs(follows(book, payoff, pair(least)), True)

    def test_own_quotes(self):
        for book in some_books(39):
            for payoff, price in book.quotes:
                self.assertIs(follows(book, payoff, price), True)


class TwoBooks(Told, unittest.TestCase):
    def check_parted(self, book, other):
        """What is told of two books fits together."""
        chance, alike = parting_chance(book, other), are_alike(book, other)
        self.assertIs(alike, chance is None)
        self.assertIs(alike, is_within(book, other) and is_within(other, book))
        if chance is not None:
            kept = [keeps_by_hand(each, fracs(chance)) for each in (book, other)]
            self.assertEqual(sorted(kept), [False, True])
        return alike

    def test_by_corners(self):
        books = [book for book in small_books(40, most_outcomes=4) if len(book.quotes) < 9]
        told = {True: 0, False: 0}
        for one in books:
            for two in books:
                if one.outcomes != two.outcomes:
                    continue
                corners = corners_by_hand(one)
                self.assertIs(is_within(one, two), all(keeps_by_hand(two, corner) for corner in corners))
                told[self.check_parted(one, two)] += 1
        self.assertGreater(min(told.values()), 20)

    def test_same_said_otherwise(self):
        for book in (RAIN, MORE, HALF, Book(4, ()), SIX, point_book((Fraction(1, 3), Fraction(1, 6), Fraction(1, 2)))):
            others = [book, Book(book.outcomes, book.quotes[::-1]), Book(book.outcomes, book.quotes * 2),
                      times(book, 2), times(book, 999), raised(book, 5), raised(book, -5), times(raised(book, 3), 7),
                      Book(book.outcomes, book.quotes + weaker(book, 1).quotes)]
            for one in others:
                for two in others:
                    self.assertTrue(self.check_parted(one, two))

    def test_weaker_books(self):
        for book in (RAIN, MORE, HALF):
            for number in (Fraction(1, 100), Fraction(1, 12)):
                low = weaker(book, number)
                self.assertFalse(self.check_parted(book, low))
                self.assertTrue(is_within(book, low))
                self.assertFalse(is_within(low, book))

    def test_some_books(self):
        rng = random.Random(41)
        for outcomes in range(2, 7):
            for _ in range(8):
                one = sound_book(rng, outcomes, rng.randint(0, 12))
                two = Book(outcomes, one.quotes[:rng.randint(0, 12)])
                self.check_parted(one, two)
                self.assertTrue(is_within(one, two))
                self.check_parted(one, sound_book(rng, outcomes, rng.randint(0, 12)))

    def test_every_chance(self):
        # A chance that keeps the one book by just so much tells where the other one ends.
        one, two = Book.read("2: 1,0>=1/3"), Book.read("2: 1,0>=334/1000".replace("334/1000", "167/500"))
        self.assertTrue(is_within(two, one))
        self.assertFalse(is_within(one, two))
        self.assertLess(worth_by_hand((1, 0), fracs(parting_chance(one, two))), Fraction(167, 500))


class Errors(Told, unittest.TestCase):
    def test_wrong_book(self):
        for value in NO_BOOKS:
            for call in BY_BOOK:
                self.check_error_both_ways(NotABook, {"given": value}, call, "book", value)
            for call in BY_INDEX:
                for index in (0, None):
                    self.check_error_both_ways(NotABook, {"given": value}, call, "book index", value, index)
            for rest in (((1, 0), (1, 2)), (None, None)):
                self.check_error_both_ways(NotABook, {"given": value}, follows, "book payoff price", value, *rest)
            for call in BY_TWO:
                for other in (RAIN, BAD, None):
                    self.check_error_both_ways(NotABook, {"given": value}, call, "book other", value, other)
                for book in (RAIN, BAD):
                    self.check_error_both_ways(NotABook, {"given": value}, call, "book other", book, value)

    def test_wrong_index(self):
        for book in (RAIN, BAD, SIX, BAD6):
            for value in no_indexes(len(book.quotes)):
                for call in BY_INDEX:
                    self.check_error_both_ways(InvalidIndex, {"given": value}, call, "book index", book, value)

    def test_wrong_quote(self):
        for book in (HALF, BAD):
            for value in no_payoffs(2):
                for price in ((1, 2), None):
                    self.check_error_both_ways(InvalidPayoff, {"given": value}, follows, "book payoff price",
                                               book, value, price)
            for value in NO_PRICES:
                self.check_error_both_ways(InvalidFraction, {"given": value}, follows, "book payoff price",
                                           book, (1, 0), value)

    def test_not_sound_last(self):
        for book in (BAD, BAD6, BAD3):
            for call in BY_BOOK:
                self.check_error_both_ways(NotSound, {}, call, "book", book)
            for call in BY_INDEX:
                self.check_error_both_ways(NotSound, {}, call, "book index", book, 0)
            for price in ((0, 1), (-10 ** 6, 1)):
                self.check_error_both_ways(NotSound, {}, follows, "book payoff price", book,
                                           (0,) * book.outcomes, price)

    def test_two_books(self):
        for call in BY_TWO:
            for one, two in ((RAIN, HALF), (HALF, SIX), (BAD, RAIN), (RAIN, BAD), (BAD, BAD3), (BAD6, BAD)):
                self.check_error_both_ways(Unlike, {}, call, "book other", one, two)
            for one, two in ((BAD, HALF), (HALF, BAD), (BAD, BAD), (BAD6, SIX), (SIX, BAD6)):
                self.check_error_both_ways(NotSound, {}, call, "book other", one, two)


if __name__ == "__main__":
    unittest.main()
