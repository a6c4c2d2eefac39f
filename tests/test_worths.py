import random
import unittest

from softchances.books import Book, is_sound
from softchances.errors import InvalidLot, InvalidPayoff, NotABook, NotSound
from softchances.worths import (end_chance, greatest_chance, greatest_worth, hedge, least_chance, least_worth)
from tests.tools import (BAD, BAD6, HALF, NO_BOOKS, RAIN, SIX, Told, corners_by_hand, frac, fracs, keeps_by_hand,
                         lots_of, no_lots, no_payoffs, pair, pairs, point_book, random_chance, random_payoff,
                         row_by_hand, small_books, some_books, worth_by_hand)

BY_PAYOFF = (least_worth, greatest_worth, end_chance, hedge)
BY_LOT = (least_chance, greatest_chance)


class ByHand(Told, unittest.TestCase):
    def test_worths(self):
        self.check_both_ways((-1, 2), least_worth, "book payoff", RAIN, (6, 0, -6))
        self.check_both_ways((3, 2), greatest_worth, "book payoff", RAIN, (6, 0, -6))
        self.check_both_ways((1, 3), least_worth, "book payoff", HALF, (1, 0))
        self.check_both_ways((2, 3), greatest_worth, "book payoff", HALF, (1, 0))
        self.check_both_ways((-7, 1), least_worth, "book payoff", Book(2, ()), (5, -7))
        self.check_both_ways((5, 1), greatest_worth, "book payoff", Book(2, ()), (5, -7))
        self.check_both_ways((1000, 1), greatest_worth, "book payoff", SIX, (1000, 0, -1000, 3, 4, 5))
        self.check_both_ways((-1000, 1), least_worth, "book payoff", SIX, (1000, 0, -1000, 3, 4, 5))
        self.check_both_ways((4, 1), least_worth, "book payoff", RAIN, (4, 4, 4))
        self.check_both_ways((4, 1), greatest_worth, "book payoff", RAIN, (4, 4, 4))
        self.check_both_ways((0, 1), least_worth, "book payoff", RAIN, (0, 0, 0))

    def test_chances(self):
        self.check_both_ways((1, 2), least_chance, "book lot", RAIN, (1, 2))
        self.check_both_ways((2, 3), greatest_chance, "book lot", RAIN, (1, 2))
        self.check_both_ways((1, 2), greatest_chance, "book lot", RAIN, (0,))
        self.check_both_ways((0, 1), least_chance, "book lot", RAIN, ())
        self.check_both_ways((0, 1), greatest_chance, "book lot", RAIN, ())
        self.check_both_ways((1, 1), least_chance, "book lot", RAIN, (0, 1, 2))
        self.check_both_ways((1, 1), greatest_chance, "book lot", SIX, (3,))
        self.check_both_ways((0, 1), least_chance, "book lot", SIX, (0, 1, 2, 4, 5))

    def test_end_chance(self):
        self.check_both_ways(((1, 3), (1, 4), (5, 12)), end_chance, "book payoff", RAIN, (6, 0, -6))
        self.check_both_ways(((0, 1), (1, 1)), end_chance, "book payoff", Book(2, ()), (5, -7))

    def test_hedge(self):
        self.check_both_ways(((1, 1), (0, 1)), hedge, "book payoff", HALF, (1, 0))
        self.check_both_ways((), hedge, "book payoff", SIX, (1, 2, 3, 4, 5, 6))

    def test_one_chance_alone(self):
        rng = random.Random(11)
        for outcomes in range(2, 7):
            chance = random_chance(rng, outcomes)
            book = point_book(chance)
            for _ in range(5):
                payoff = random_payoff(rng, outcomes, 1000)
                only = pair(worth_by_hand(payoff, chance))
                self.assertEqual((least_worth(book, payoff), greatest_worth(book, payoff)), (only, only))
                self.assertEqual(end_chance(book, payoff), pairs(chance))


class Ends(Told, unittest.TestCase):
    def test_at_the_corners(self):
        rng = random.Random(12)
        for book in small_books(12):
            found = corners_by_hand(book)
            for most in (1, 5, 1000):
                payoff = random_payoff(rng, book.outcomes, most)
                worths = [worth_by_hand(payoff, corner) for corner in found]
                self.assertEqual(least_worth(book, payoff), pair(min(worths)))
                self.assertEqual(greatest_worth(book, payoff), pair(max(worths)))
            for lot in lots_of(book.outcomes):
                chances = [sum(corner[at] for at in lot) for corner in found]
                self.assertEqual(least_chance(book, lot), pair(min(chances)))
                self.assertEqual(greatest_chance(book, lot), pair(max(chances)))

    def test_held_from_both_sides(self):
        rng = random.Random(13)
        for book in some_books(13):
            for most in (1, 1000):
                payoff = random_payoff(rng, book.outcomes, most)
                least = frac(least_worth(book, payoff))
                end = fracs(end_chance(book, payoff))
                self.assertTrue(keeps_by_hand(book, end))
                self.assertEqual(worth_by_hand(payoff, end), least)
                sale = fracs(hedge(book, payoff))
                self.assertEqual(len(sale), len(book.quotes))
                self.assertTrue(all(number >= 0 for number in sale))
                left = [number - lost for number, lost in zip(payoff, row_by_hand(book, sale))]
                self.assertGreaterEqual(min(left), least)

    def test_opposite_payoffs(self):
        rng = random.Random(14)
        for book in some_books(14):
            payoff = random_payoff(rng, book.outcomes, 1000)
            opposite = tuple(-number for number in payoff)
            self.assertEqual(frac(greatest_worth(book, payoff)), -frac(least_worth(book, opposite)))
            self.assertLessEqual(frac(least_worth(book, payoff)), frac(greatest_worth(book, payoff)))

    def test_chances_of_the_rest(self):
        for book in some_books(15):
            lots = lots_of(book.outcomes)
            for lot, rest in zip(lots, reversed(lots)):
                self.assertEqual(frac(least_chance(book, lot)), 1 - frac(greatest_chance(book, rest)))

    def test_one_quote_more(self):
        rng = random.Random(16)
        told = 0
        for book in list(small_books(16)) + list(some_books(16)):
            payoff = random_payoff(rng, book.outcomes, 3)
            greatest = frac(greatest_worth(book, payoff))
            above = pair((greatest * 1000).__floor__() + 1)
            step = (greatest * 997).__floor__() + 1
            if len(book.quotes) == 32:
                continue
            self.assertFalse(is_sound(book.with_quote(payoff, pair(frac(above) / 1000))))
            self.assertFalse(is_sound(book.with_quote(payoff, pair(frac((step, 1)) / 997))))
            self.assertTrue(is_sound(book.with_quote(payoff, pair((greatest * 1000).__floor__() * frac((1, 1000))))))
            if greatest.denominator <= 1000:
                told += 1
                self.assertTrue(is_sound(book.with_quote(payoff, pair(greatest))))
        self.assertGreater(told, 30)


class Errors(Told, unittest.TestCase):
    def test_wrong_book(self):
        for value in NO_BOOKS:
            for call in BY_PAYOFF:
                for payoff in ((1, 2), None):
                    self.check_error_both_ways(NotABook, {"given": value}, call, "book payoff", value, payoff)
            for call in BY_LOT:
                for lot in ((1,), None):
                    self.check_error_both_ways(NotABook, {"given": value}, call, "book lot", value, lot)

    def test_wrong_payoff(self):
        for book in (HALF, BAD, Book(2, ())):
            for value in no_payoffs(2):
                for call in BY_PAYOFF:
                    self.check_error_both_ways(InvalidPayoff, {"given": value}, call, "book payoff", book, value)

    def test_wrong_lot(self):
        for book in (HALF, BAD, Book(2, ())):
            for value in no_lots(2):
                for call in BY_LOT:
                    self.check_error_both_ways(InvalidLot, {"given": value}, call, "book lot", book, value)

    def test_not_sound_last(self):
        for book, payoff, lots in ((BAD, (1, 0), lots_of(2)), (BAD6, (0,) * 6, lots_of(6))):
            for call in BY_PAYOFF:
                self.check_error_both_ways(NotSound, {}, call, "book payoff", book, payoff)
            for call in BY_LOT:
                for lot in lots:
                    self.check_error_both_ways(NotSound, {}, call, "book lot", book, lot)


if __name__ == "__main__":
    unittest.main()
