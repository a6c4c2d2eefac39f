import random
import unittest
from fractions import Fraction

from softchances.books import Book
from softchances.corners import corners, is_corner, mean_corner
from softchances.errors import InvalidChance, NotABook, NotSound, TooGreat
from softchances.worths import end_chance, greatest_worth, least_worth
from tests.test_book_functions import NO_CHANCES
from tests.tools import (BAD, BAD3, BAD6, HALF, NO_BOOKS, RAIN, SIX, Told, corners_by_hand, frac, fracs, is_chance,
                         keeps_by_hand, pairs, point_book, random_chance, random_payoff, small_books, some_books,
                         sound_book, worth_by_hand)

RAIN_CORNERS = (((1, 3), (1, 4), (5, 12)), ((1, 3), (5, 12), (1, 4)), ((1, 2), (1, 4), (1, 4)))


class ByHand(Told, unittest.TestCase):
    def test_corners(self):
        self.check_both_ways(RAIN_CORNERS, corners, "book", RAIN)
        self.check_both_ways((((1, 3), (2, 3)), ((2, 3), (1, 3))), corners, "book", HALF)
        for outcomes in range(2, 6):
            units = tuple(tuple((int(at == place), 1) for at in range(outcomes)) for place in range(outcomes))
            self.check_both_ways(units[::-1], corners, "book", Book(outcomes, ()))

    def test_ascending_by_size(self):
        # As pairs (1, 2) is less than (5, 12), by size it is greater.
        book = Book.read("2: 1,0>=5/12 -1,0>=-1/2")
        self.assertEqual(corners(book), (((5, 12), (7, 12)), ((1, 2), (1, 2))))
        book = Book.read("3: 1,0,0>=1/2 -1,0,0>=-1/2 0,1,0>=1/10 0,-1,0>=-1/9")
        self.assertEqual(corners(book), (((1, 2), (1, 10), (2, 5)), ((1, 2), (1, 9), (7, 18))))

    def test_is_corner(self):
        self.check_both_ways(True, is_corner, "book chance", RAIN, ((1, 2), (1, 4), (1, 4)))
        self.check_both_ways(False, is_corner, "book chance", RAIN, ((1, 3), (1, 3), (1, 3)))
        self.check_both_ways(False, is_corner, "book chance", RAIN, ((5, 12), (1, 4), (1, 3)))
        self.check_both_ways(False, is_corner, "book chance", RAIN, ((1, 1), (0, 1), (0, 1)))
        self.check_both_ways(True, is_corner, "book chance", Book(3, ()), ((1, 1), (0, 1), (0, 1)))
        self.check_both_ways(False, is_corner, "book chance", Book(3, ()), ((1, 2), (1, 2), (0, 1)))

    def test_mean_corner(self):
        self.check_both_ways(((1, 2), (1, 2)), mean_corner, "book", HALF)
        self.check_both_ways(((7, 18), (11, 36), (11, 36)), mean_corner, "book", RAIN)
        self.check_both_ways(((1, 5),) * 5, mean_corner, "book", Book(5, ()))

    def test_flat_sets(self):
        for text, many in (("4: 1,1,0,0>=1/2 -1,-1,0,0>=-1/2", 4), ("4: 1,0,0,0>=1/2 -1,0,0,0>=-1/2", 3),
                           ("5: 1,1,0,0,0>=1/2 0,0,1,1,1>=1/2", 6), ("5: 1,0,0,0,0>=1/1", 1),
                           ("3: 1,-1,0>=0/1 -1,1,0>=0/1", 2), ("3: 0,0,0>=0/1 1,1,1>=1/1", 3)):
            book = Book.read(text)
            self.assertEqual(len(corners(book)), many, text)
            self.assertEqual([fracs(corner) for corner in corners(book)], corners_by_hand(book), text)


class Every(Told, unittest.TestCase):
    def test_all_and_no_others(self):
        for book in small_books(21, most_outcomes=5):
            self.assertEqual([fracs(corner) for corner in corners(book)], corners_by_hand(book))

    def test_many_quotes(self):
        rng = random.Random(22)
        for outcomes, many in ((3, 20), (3, 32), (4, 12), (4, 15), (5, 8)):
            book = sound_book(rng, outcomes, many, most=9, slack=9)
            self.assertEqual([fracs(corner) for corner in corners(book)], corners_by_hand(book))

    def test_quotes_through_one_chance(self):
        # More quotes than need be meet in one corner.
        rng = random.Random(23)
        for outcomes in (3, 4, 5):
            for many in (4, 6, 8):
                book = sound_book(rng, outcomes, many, most=2, slack=0)
                self.assertEqual([fracs(corner) for corner in corners(book)], corners_by_hand(book))

    def test_one_chance_alone(self):
        rng = random.Random(24)
        for outcomes in range(2, 6):
            chance = random_chance(rng, outcomes)
            self.assertEqual(corners(point_book(chance)), (pairs(chance),))
            self.assertEqual(mean_corner(point_book(chance)), pairs(chance))

    def test_large_books(self):
        rng = random.Random(25)
        for book in some_books(25):
            if book.outcomes == 6:
                continue
            listed = [fracs(corner) for corner in corners(book)]
            self.assertTrue(all(one < two for one, two in zip(listed, listed[1:])))
            self.assertTrue(all(keeps_by_hand(book, corner) for corner in listed))
            for _ in range(3):
                payoff = random_payoff(rng, book.outcomes, 1000)
                worths = [worth_by_hand(payoff, corner) for corner in listed]
                self.assertEqual(min(worths), frac(least_worth(book, payoff)))
                self.assertEqual(max(worths), frac(greatest_worth(book, payoff)))
                least = [corner for corner, number in zip(listed, worths) if number == min(worths)]
                if len(least) == 1:
                    self.assertEqual(fracs(end_chance(book, payoff)), least[0])

    def test_is_corner_and_mean(self):
        for book in small_books(26, most_outcomes=5):
            listed = corners(book)
            numbers = [fracs(corner) for corner in listed]
            mean = tuple(sum((corner[at] for corner in numbers), Fraction(0)) / len(numbers)
                         for at in range(book.outcomes))
            told = mean_corner(book)
            self.assertEqual(fracs(told), mean)
            self.assertTrue(is_chance(mean, book.outcomes))
            for corner in listed:
                if all(bottom <= 10 ** 6 for _, bottom in corner):
                    self.assertIs(is_corner(book, corner), True)
            if all(bottom <= 10 ** 6 for _, bottom in told):
                self.assertIs(is_corner(book, told), len(listed) == 1)


class Errors(Told, unittest.TestCase):
    def test_wrong_book(self):
        for value in NO_BOOKS:
            for call in (corners, mean_corner):
                self.check_error_both_ways(NotABook, {"given": value}, call, "book", value)
            for chance in (((1, 2), (1, 2)), None):
                self.check_error_both_ways(NotABook, {"given": value}, is_corner, "book chance", value, chance)

    def test_wrong_chance(self):
        for chance, index in NO_CHANCES:
            for book in (RAIN, BAD3):
                self.check_error_both_ways(InvalidChance, {"index": index}, is_corner, "book chance", book, chance)
        for book in (SIX, BAD6):
            self.check_error(InvalidChance, {"index": None}, is_corner, book, ((1, 2), (1, 2)))

    def test_not_sound(self):
        for book, chance in ((BAD, ((1, 2), (1, 2))), (BAD6, ((1, 6),) * 6)):
            for call in (corners, mean_corner):
                self.check_error_both_ways(NotSound, {}, call, "book", book)
            self.check_error_both_ways(NotSound, {}, is_corner, "book chance", book, chance)

    def test_too_great_last(self):
        for book in (SIX, SIX.with_quote((1,) * 6, (1, 1))):
            for call in (corners, mean_corner):
                self.check_error_both_ways(TooGreat, {"given": 6}, call, "book", book)
            self.check_error_both_ways(TooGreat, {"given": 6}, is_corner, "book chance", book, ((1, 6),) * 6)


if __name__ == "__main__":
    unittest.main()
