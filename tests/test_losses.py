import random
import unittest
from fractions import Fraction
from itertools import combinations

from softchances.books import Book, is_sound
from softchances.errors import NotABook
from softchances.losses import cheapest_mend, culprits, least_cost, losing_mix, loss
from tests.tools import (BAD, BAD3, BAD6, HALF, NO_BOOKS, RAIN, SIX, Told, any_book, corners_of_limits, frac, fracs,
                         is_chance, level_chance, level_row, pair, price_below, row_by_hand, small_books, some_books,
                         unit_rows, worth_by_hand)

CALLS = (loss, losing_mix, least_cost, cheapest_mend, culprits)


def lowered(book, numbers):
    """The corners of what keeps the book with its prices less these numbers."""
    return corners_of_limits(book.outcomes, [(payoff, Fraction(*price) - number)
                                             for (payoff, price), number in zip(book.quotes, numbers)])


def missing(book, chance):
    """What each quote lacks at a chance."""
    return [max(Fraction(0), Fraction(*price) - worth_by_hand(payoff, chance)) for payoff, price in book.quotes]


def least_missing(book):
    """The least sum of what all quotes lack, at all chances where enough of them lack or are just level."""
    rows = unit_rows(book.outcomes) + [level_row(payoff, Fraction(*price)) for payoff, price in book.quotes]
    found = [level_chance(chosen) for chosen in combinations(rows, book.outcomes - 1)]
    return min(sum(missing(book, chance)) for chance in found if chance is not None)


def bad_books(seed, sizes=((2, (2, 3, 6, 12)), (3, (2, 3, 5, 8)), (4, (2, 3, 5)), (5, (3, 4)))):
    """Books, few of them sound, that are small enough to find all by hand."""
    rng = random.Random(seed)
    yield from (BAD, BAD3)
    for outcomes, many in sizes:
        for size in many:
            for most in (1, 4, 1000):
                yield any_book(rng, outcomes, size, most)
                book = any_book(rng, outcomes, size, most)
                # A book that is only just not sound, or only just sound.
                numbers = [rng.randint(0, 5) for _ in range(outcomes - 1)] + [1]
                chance = [Fraction(number, sum(numbers)) for number in numbers]
                quotes = [(payoff, price_below(worth_by_hand(payoff, chance), 100)) for payoff, _ in book.quotes]
                at = rng.randrange(size)
                quotes[at] = (quotes[at][0], pair(Fraction(*quotes[at][1]) + Fraction(rng.randint(0, 3), 100)))
                yield Book(outcomes, tuple(quotes))


class ByHand(Told, unittest.TestCase):
    def test_bad(self):
        self.check_both_ways((1, 6), loss, "book", BAD)
        self.check_both_ways(((1, 2), (1, 2)), losing_mix, "book", BAD)
        self.check_both_ways((1, 3), least_cost, "book", BAD)
        self.check_both_ways((0, 1), culprits, "book", BAD)
        self.assertEqual(sum(fracs(cheapest_mend(BAD))), Fraction(1, 3))

    def test_sound(self):
        for book in (RAIN, HALF, SIX, Book(2, ())):
            none = ((0, 1),) * len(book.quotes)
            for call, told in ((loss, (0, 1)), (losing_mix, None), (least_cost, (0, 1)), (cheapest_mend, none),
                               (culprits, ())):
                self.check_both_ways(told, call, "book", book)

    def test_one_quote(self):
        book = Book.read("3: 1,-2,3>=7/2")
        for call, told in ((loss, (1, 2)), (losing_mix, ((1, 1),)), (least_cost, (1, 2)), (cheapest_mend, ((1, 2),)),
                           (culprits, (0,))):
            self.check_both_ways(told, call, "book", book)
        self.check_both_ways((1, 1), loss, "book", BAD6)

    def test_unlike_quotes(self):
        # One quote of two may pay more for what it costs than the other.
        book = Book.read("2: 1,0>=1/1 0,3>=1/1")
        for call, told in ((loss, (1, 4)), (losing_mix, ((3, 4), (1, 4))), (least_cost, (1, 3)),
                           (cheapest_mend, ((1, 3), (0, 1))), (culprits, (0, 1))):
            self.check_both_ways(told, call, "book", book)

    def test_two_faults(self):
        book = Book.read("2: 1,0>=2/1 0,1>=1/2 1,1>=3/2")
        for call, told in ((loss, (1, 1)), (culprits, ()), (least_cost, (2, 1))):
            self.check_both_ways(told, call, "book", book)

    def test_greatest_and_least_prices(self):
        book = Book(2, (((-1000, -1000), (10 ** 6, 999)), ((0, 0), (-10 ** 6, 1)), ((1, 0), (1, 1000))))
        for call, told in ((loss, (1999000, 999)), (losing_mix, ((1, 1), (0, 1), (0, 1))),
                           (least_cost, (1999000, 999)), (cheapest_mend, ((1999000, 999), (0, 1), (0, 1))),
                           (culprits, (0,))):
            self.check_both_ways(told, call, "book", book)


class Loss(Told, unittest.TestCase):
    def test_held_from_both_sides(self):
        lost = 0
        for book in list(bad_books(111)) + list(small_books(111, most_outcomes=4)):
            told, many = frac(loss(book)), len(book.quotes)
            self.assertTrue(lowered(book, [told] * many))
            mix = losing_mix(book)
            self.assertIs(mix is None, is_sound(book))
            self.assertIs(told == 0, mix is None)
            if mix is None:
                continue
            lost += 1
            self.assertTrue(is_chance(fracs(mix), many))
            self.assertLessEqual(max(row_by_hand(book, fracs(mix))), -told)
            self.assertFalse(lowered(book, [told - Fraction(1, 10 ** 9)] * many))
        self.assertGreater(lost, 30)

    def test_large_books(self):
        lost = 0
        for book in some_books(112, sound=False):
            told, mix = frac(loss(book)), losing_mix(book)
            self.assertIs(mix is None, is_sound(book))
            self.assertIs(mix is None, told == 0)
            if mix is not None:
                lost += 1
                self.assertTrue(is_chance(fracs(mix), len(book.quotes)))
                self.assertLessEqual(max(row_by_hand(book, fracs(mix))), -told)
        self.assertGreater(lost, 10)


class Mends(Told, unittest.TestCase):
    def test_mends(self):
        for book in list(bad_books(113)) + list(small_books(113, most_outcomes=3)):
            mend, cost = fracs(cheapest_mend(book)), frac(least_cost(book))
            self.assertEqual(len(mend), len(book.quotes))
            self.assertTrue(all(number >= 0 for number in mend))
            self.assertEqual(sum(mend), cost)
            self.assertTrue(lowered(book, mend))
            self.assertEqual(cost == 0, is_sound(book))
            self.assertGreaterEqual(cost, frac(loss(book)))

    def test_no_other_does_for_less(self):
        for book in bad_books(114, ((2, (2, 3, 6, 12)), (3, (2, 3, 5, 8)), (4, (2, 3, 5)))):
            self.assertEqual(frac(least_cost(book)), least_missing(book))

    def test_large_books(self):
        # With numbers up to 1 for each quote, no sale loses more than a mend must pay.
        for book in some_books(115, sound=False):
            mend, cost = fracs(cheapest_mend(book)), frac(least_cost(book))
            self.assertEqual(sum(mend), cost)
            mix = losing_mix(book)
            if mix is None:
                self.assertEqual(set(mend), {Fraction(0)} if mend else set())
            else:
                numbers = fracs(mix)
                self.assertGreaterEqual(cost, frac(loss(book)) / max(numbers))
                self.assertLessEqual(cost, frac(loss(book)) * len(numbers))


class Culprits(Told, unittest.TestCase):
    def test_by_hand(self):
        found = 0
        for book in bad_books(116):
            by_hand = tuple(at for at in range(len(book.quotes)) if lowered(book.without(at), [0] * len(book.quotes)))
            if lowered(book, [0] * len(book.quotes)):
                by_hand = ()
            found += len(by_hand)
            self.assertEqual(culprits(book), by_hand)
        self.assertGreater(found, 10)

    def test_one_wrong_quote_among_many(self):
        for book in some_books(117):
            if len(book.quotes) == 32:
                continue
            payoff = (3,) + (2,) * (book.outcomes - 1)
            wrong = book.with_quote(payoff, (4, 1))
            self.assertEqual(culprits(wrong), (len(book.quotes),))
            twice = wrong.with_quote(payoff, (4, 1)) if len(wrong.quotes) < 32 else wrong
            if twice is not wrong:
                self.assertEqual(culprits(twice), ())


class Likewise(Told, unittest.TestCase):
    def test_quotes_said_twice(self):
        for book in bad_books(118, ((2, (2, 4)), (3, (3, 5)), (4, (3,)))):
            twice = Book(book.outcomes, book.quotes + book.quotes)
            self.assertEqual(loss(twice), loss(book))
            self.assertEqual(frac(least_cost(twice)), 2 * frac(least_cost(book)))
            self.assertEqual(losing_mix(twice) is None, losing_mix(book) is None)
            self.assertEqual(culprits(twice), ())
            mend = fracs(cheapest_mend(twice))
            self.assertEqual(sum(mend), frac(least_cost(twice)))
            self.assertTrue(lowered(twice, mend))

    def test_outcomes_in_another_order(self):
        rng = random.Random(119)
        for book in bad_books(119):
            order = rng.sample(range(book.outcomes), book.outcomes)
            turned = Book(book.outcomes, tuple((tuple(payoff[at] for at in order), price)
                                               for payoff, price in book.quotes))
            for call in (loss, least_cost, culprits):
                self.assertEqual(call(turned), call(book))


class Errors(Told, unittest.TestCase):
    def test_wrong_book(self):
        for value in NO_BOOKS:
            for call in CALLS:
                self.check_error_both_ways(NotABook, {"given": value}, call, "book", value)


if __name__ == "__main__":
    unittest.main()
