import random
import unittest
from fractions import Fraction

from softchances.books import Book, chance_for, is_sound, keeps, losing_sale, row_of, worth
from softchances.errors import InvalidChance, InvalidPayoff, InvalidSale, NotABook
from tests.tools import (BAD, HALF, NO_BOOKS, ODD_VALUES, RAIN, Told, any_book, corners_by_hand, fracs,
                         keeps_by_hand, pair, pairs, point_book, random_chance, random_payoff,
                         row_by_hand, some_books, worth_by_hand)

PLAIN = ((1, 2), (1, 4), (1, 4))

# Each of these is no chance for three outcomes, with the index that is told.
NO_CHANCES = (
    ((), None), (((1, 2), (1, 2)), None), (PLAIN + ((0, 1),), None), (((2, 1),), None), (list(PLAIN), None),
    (((1, 2), (1, 4), (1, 5)), None), (((0, 1), (0, 1), (0, 1)), None), (((1, 3), (1, 3), (333333, 10 ** 6)), None),
    ((None, None, None), 0), (((2, 4), (1, 4), (1, 4)), 0), (((-1, 2), (1, 2), (1, 1)), 0),
    (((3, 2), (0, 1), (0, 1)), 0), (((2, 1), None, None), 0), (((0, 2), (1, 2), (1, 2)), 0), ((1, 0, 0), 0),
    (([1, 2], (1, 4), (1, 4)), 0), (((True, 1), (0, 1), (0, 1)), 0), (((1, 10 ** 6 + 1), (0, 1), (0, 1)), 0),
    (((1, 0), (0, 1), (0, 1)), 0), (((1, 2, 3), (0, 1), (0, 1)), 0), (("1/2", "1/4", "1/4"), 0),
    (((1, 2), (2, 3), None), 1), (((1, 1), (1, 10 ** 6), (0, 1)), 1), (((1, 2), (2, 8), (1, 4)), 1),
    (((1, 2), (False, 1), (1, 2)), 1), (((1, 2), (1, 2), (1, 2)), 2), (((1, 2), (1, 4), (1, 3)), 2),
    (((1, 2), (1, 4), (3, 12)), 2), (((1, 2), (1, 4), None), 2), (((1, 2), (1, 2), (-1, 2)), 2),
    (((1, 2), (1, 4), (-1, 4)), 2), (((1, 2), (1, 4), (250001, 10 ** 6)), 2)) + tuple(
        (value, None) for value in ODD_VALUES)

# Each of these is no sale for two quotes, with the index that is told.
NO_SALES = (
    ((), None), (((1, 1),), None), (((1, 1),) * 3, None), ([(1, 1), (1, 1)], None), (((2, 2),) * 3, None),
    ((None, None), 0), (((2, 2), (1, 1)), 0), (((-1, 2), (1, 1)), 0), (((1, 1), (-1, 1)), 1), ((1, 1), 0),
    (((0, 1), (0, 2)), 1), (((10 ** 9 + 1, 1), (1, 1)), 0), (((1, 1), (1, 10 ** 6 + 1)), 1), (((True, 1), (1, 1)), 0),
    (((1, 1), (1, True)), 1), (((1, 1), [1, 1]), 1), (((1, 1), (1, 0)), 1), (((1, 1), (1, -1)), 1),
    (((1, 1), ()), 1), (((1, 1), (10 ** 79, 1)), 1)) + tuple((value, None) for value in ODD_VALUES)


class Worth(Told, unittest.TestCase):
    def test_by_hand(self):
        self.check_both_ways((3, 2), worth, "payoff chance", (6, 0, -6), PLAIN)
        self.check_both_ways((0, 1), worth, "payoff chance", (0, 0, 0), PLAIN)
        self.check_both_ways((-1, 1), worth, "payoff chance", (-4, 1, 3), PLAIN)
        self.check_both_ways((7, 1), worth, "payoff chance", (7, -3), ((1, 1), (0, 1)))
        self.check_both_ways((-3, 1), worth, "payoff chance", (7, -3), ((0, 1), (1, 1)))
        self.check_both_ways((5, 2), worth, "payoff chance", (0, 1, 2, 3, 4, 5), ((1, 6),) * 6)

    def test_many(self):
        rng = random.Random(3)
        for _ in range(300):
            outcomes = rng.randint(2, 6)
            payoff, chance = random_payoff(rng, outcomes, 1000), random_chance(rng, outcomes, 1000)
            self.assertEqual(worth(payoff, pairs(chance)), pair(worth_by_hand(payoff, chance)))

    def test_wrong_payoff(self):
        for payoff in ODD_VALUES + ((), (1,), (1,) * 7, [1, 2], (1, True), (1001, 0), (0, -1001), ("1", 2)):
            for chance in (PLAIN, None, ((1, 2), (1, 2)), (None, None)):
                self.check_error_both_ways(InvalidPayoff, {"given": payoff}, worth, "payoff chance", payoff, chance)

    def test_wrong_chance(self):
        for chance, index in NO_CHANCES:
            self.check_error_both_ways(InvalidChance, {"index": index}, worth, "payoff chance", (1, 2, 3), chance)


class Keeps(Told, unittest.TestCase):
    def test_by_hand(self):
        self.check_both_ways(True, keeps, "book chance", RAIN, PLAIN)
        self.check_both_ways(False, keeps, "book chance", RAIN, ((1, 1), (0, 1), (0, 1)))
        self.check_both_ways(True, keeps, "book chance", RAIN, ((1, 3), (1, 3), (1, 3)))
        self.check_both_ways(True, keeps, "book chance", RAIN, ((1, 3), (1, 4), (5, 12)))
        self.check_both_ways(False, keeps, "book chance", RAIN, ((333, 1000), (417, 1000), (1, 4)))
        self.check_both_ways(True, keeps, "book chance", Book(2, ()), ((0, 1), (1, 1)))
        self.check_both_ways(False, keeps, "book chance", BAD, ((1, 2), (1, 2)))

    def test_many(self):
        rng = random.Random(4)
        told = {True: 0, False: 0}
        for book in some_books(4, sound=False):
            for _ in range(4):
                chance = random_chance(rng, book.outcomes)
                answer = keeps(book, pairs(chance))
                self.assertIs(answer, keeps_by_hand(book, chance))
                told[answer] += 1
        self.assertGreater(min(told.values()), 20)

    def test_wrong_book(self):
        for value in NO_BOOKS:
            for chance in (PLAIN, None):
                self.check_error_both_ways(NotABook, {"given": value}, keeps, "book chance", value, chance)

    def test_wrong_chance(self):
        for chance, index in NO_CHANCES:
            for book in (RAIN, Book(3, ()), Book(3, (((0, 0, 0), (1, 1)),))):
                self.check_error_both_ways(InvalidChance, {"index": index}, keeps, "book chance", book, chance)
        self.check_error(InvalidChance, {"index": None}, keeps, HALF, PLAIN)


class RowOf(Told, unittest.TestCase):
    def test_by_hand(self):
        self.check_both_ways(((-1, 3), (-1, 3)), row_of, "book sale", BAD, ((1, 1), (1, 1)))
        self.check_both_ways(((0, 1), (0, 1)), row_of, "book sale", BAD, ((0, 1), (0, 1)))
        self.check_both_ways(((1, 6), (-1, 3)), row_of, "book sale", BAD, ((1, 2), (0, 1)))
        self.check_both_ways(((0, 1), (0, 1), (0, 1)), row_of, "book sale", Book(3, ()), ())
        self.check_both_ways(((3, 4), (-3, 4), (1, 4)), row_of, "book sale", RAIN, ((3, 2), (0, 1), (1, 1)))

    def test_many(self):
        rng = random.Random(6)
        for book in some_books(6, sound=False):
            sale = tuple(Fraction(rng.randint(0, 9), rng.randint(1, 9)) for _ in book.quotes)
            self.assertEqual(row_of(book, pairs(sale)), pairs(row_by_hand(book, sale)))

    def test_wrong_book(self):
        for value in NO_BOOKS:
            for sale in ((), None, ((1, 1), (1, 1))):
                self.check_error_both_ways(NotABook, {"given": value}, row_of, "book sale", value, sale)

    def test_wrong_sale(self):
        for sale, index in NO_SALES:
            for book in (BAD, HALF):
                self.check_error_both_ways(InvalidSale, {"index": index}, row_of, "book sale", book, sale)
        self.check_error(InvalidSale, {"index": None}, row_of, Book(2, ()), ((1, 1),))
        self.check_error(InvalidSale, {"index": None}, row_of, Book(2, ()), [])


class EitherSide(Told, unittest.TestCase):
    def check_side(self, book):
        """Just one of both is told, and it shows what it should; tells which."""
        sound, chance, sale = is_sound(book), chance_for(book), losing_sale(book)
        self.assertIs(type(sound), bool)
        self.assertEqual((sound, not sound), (chance is not None, sale is not None))
        if sound:
            self.assertTrue(keeps_by_hand(book, fracs(chance)))
        else:
            numbers = fracs(sale)
            self.assertEqual(len(numbers), len(book.quotes))
            self.assertTrue(all(number >= 0 for number in numbers))
            self.assertTrue(all(number < 0 for number in row_by_hand(book, numbers)))
        return sound

    def test_by_hand(self):
        self.check_both_ways(True, is_sound, "book", RAIN)
        self.check_both_ways(False, is_sound, "book", BAD)
        self.check_both_ways(None, chance_for, "book", BAD)
        self.check_both_ways(None, losing_sale, "book", RAIN)
        self.check_both_ways(None, losing_sale, "book", Book(6, ()))
        self.check_both_ways(((1, 4), (3, 4)), chance_for, "book", point_book((Fraction(1, 4), Fraction(3, 4))))
        self.assertEqual(len(set(fracs(losing_sale(book=BAD)))), 1)

    def test_just_sound(self):
        for text, sound in (("2: 1,0>=1/2 0,1>=1/2", True), ("2: 1,0>=1/2 0,1>=501/1000", False),
                            ("2: 1,0>=1/2 -1,0>=-1/2", True), ("2: 1,0>=1/2 -1,0>=-499/1000", False),
                            ("2: 1,1>=1/1", True), ("2: 1,1>=1001/1000", False), ("2: 999,-1000>=999/1", True),
                            ("2: 999,-1000>=999001/1000", False), ("2: 0,0>=0/1", True), ("2: 0,0>=1/1000", False),
                            ("3: 1,0,0>=1/3 0,1,0>=1/3 0,0,1>=1/3", True), ("3: -1,-1,-1>=-1/1", True),
                            ("3: 1,0,0>=167/500 0,1,0>=1/3 0,0,1>=1/3", False),
                            ("6: 1,1,1,0,0,0>=1/2 0,0,0,1,1,1>=1/2", True), ("6: 1,2,3,4,5,6>=7/1", False)):
            self.assertIs(self.check_side(Book.read(text)), sound, text)

    def test_sound_books(self):
        for book in some_books(7):
            self.assertTrue(self.check_side(book))

    def test_any_books(self):
        rng = random.Random(8)
        told = {(outcomes, sound): 0 for outcomes in range(2, 7) for sound in (True, False)}
        for outcomes in range(2, 7):
            for many in list(range(12)) * 4 + [16, 24, 32] * 4:
                book = any_book(rng, outcomes, many, rng.choice((1, 2, 4, 100, 1000)))
                told[outcomes, self.check_side(book)] += 1
        self.assertGreater(min(told.values()), 5)

    def test_soundness_by_hand(self):
        rng = random.Random(9)
        told = {True: 0, False: 0}
        for _ in range(150):
            book = any_book(rng, rng.randint(2, 4), rng.randint(0, 5), 2)
            sound = is_sound(book)
            self.assertIs(sound, bool(corners_by_hand(book)))
            told[sound] += 1
        self.assertGreater(min(told.values()), 20)

    def test_unsound_full_books(self):
        for outcomes in range(2, 7):
            chance = tuple(Fraction(1, outcomes) for _ in range(outcomes))
            book = point_book(chance)
            self.assertTrue(self.check_side(book))
            more = book.with_quote((1,) + (0,) * (outcomes - 1), (1, outcomes - 1) if outcomes > 2 else (2, 3))
            self.assertFalse(self.check_side(more))

    def test_wrong_book(self):
        for value in NO_BOOKS:
            for call in (is_sound, chance_for, losing_sale):
                self.check_error_both_ways(NotABook, {"given": value}, call, "book", value)


if __name__ == "__main__":
    unittest.main()
