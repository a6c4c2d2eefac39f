import unittest

from softchances import limits
from softchances.books import Book, keeps, row_of, worth
from softchances.errors import (InvalidChance, InvalidFraction, InvalidNumber, InvalidPayoff, InvalidQuotes,
                                InvalidSale, TooGreat)
from tests.tools import Told

QUOTE = ((1, 0), (1, 2))


class Names(unittest.TestCase):
    def test_values(self):
        expected = {"MOST_OUTCOMES": 6, "MOST_LISTED": 5, "MOST_NUMBER": 1000, "MOST_QUOTES": 32,
                    "MOST_TOP": 10 ** 9, "MOST_BOTTOM": 10 ** 6, "MOST_PRICE_TOP": 10 ** 6,
                    "MOST_PRICE_BOTTOM": 1000, "MOST_ACTS": 8, "MOST_PLACES": 4, "MOST_STEPS": 20}
        told = {name: value for name, value in vars(limits).items() if not name.startswith("__")}
        self.assertEqual(told, expected)
        for value in told.values():
            self.assertIs(type(value), int)


class Edges(Told, unittest.TestCase):
    def test_outcomes(self):
        for outcomes in (2, 3, 4, 5, 6):
            self.assertEqual(Book(outcomes, ()).outcomes, outcomes)
        for outcomes in (1, 7, 0, -2, 10 ** 70):
            self.check_error(InvalidNumber, {"given": outcomes}, Book, outcomes, ())

    def test_numbers_of_payoffs(self):
        for number in (1000, -1000):
            book = Book(2, (((number, 0), (0, 1)), ((0, number), (0, 1))))
            self.assertEqual(book.quotes[0][0], (number, 0))
            self.assertEqual(worth((number, number), ((1, 2), (1, 2))), (number, 1))
            self.assertEqual(len(Book(2, ()).with_quote((0, number), (0, 1)).quotes), 1)
        for number in (1001, -1001):
            self.check_error(InvalidQuotes, {"index": 1}, Book, 2, (QUOTE, ((number, 0), (0, 1))))
            self.check_error(InvalidQuotes, {"index": 0}, Book, 2, (((0, number), (0, 1)),))
            for payoff in ((0, number), (number, 0)):
                self.check_error(InvalidPayoff, {"given": payoff}, worth, payoff, ((1, 2), (1, 2)))
                self.check_error(InvalidPayoff, {"given": payoff}, Book(2, ()).with_quote, payoff, (0, 1))

    def test_prices(self):
        for price in ((10 ** 6, 1), (-10 ** 6, 1), (1, 1000), (-1, 1000), (10 ** 6, 999), (-10 ** 6, 999), (0, 1)):
            self.assertEqual(Book(2, (((0, 0), price),)).quotes[0][1], price)
            self.assertEqual(Book(2, ()).with_quote((0, 0), price).quotes, (((0, 0), price),))
        for price in ((10 ** 6 + 1, 1), (-10 ** 6 - 1, 1), (1, 1001), (-1, 1001), (1, 10 ** 6)):
            self.check_error(InvalidQuotes, {"index": 1}, Book, 2, (QUOTE, ((0, 0), price)))
            self.check_error(InvalidFraction, {"given": price}, Book(2, ()).with_quote, (0, 0), price)

    def test_shares_of_chances(self):
        most = 10 ** 6
        for chance in (((1, most), (most - 1, most)), ((0, 1), (1, 1)), ((1, 1), (0, 1))):
            self.assertTrue(keeps(Book(2, ()), chance))
            self.assertEqual(worth((1, 0), chance), chance[0])
        beyond = ((1, most + 1), (most, most + 1))
        self.check_error(InvalidChance, {"index": 0}, keeps, Book(2, ()), beyond)
        self.check_error(InvalidChance, {"index": 0}, worth, (1, 0), beyond)
        self.check_error(InvalidChance, {"index": 0}, keeps, Book(2, ()), ((-1, 2), (3, 2)))
        self.check_error(InvalidChance, {"index": 0}, keeps, Book(2, ()), ((3, 2), (-1, 2)))
        self.check_error(InvalidChance, {"index": 1}, keeps, Book(2, ()), ((0, 1), (most + 1, most)))

    def test_fractions_of_sales(self):
        book = Book(2, (QUOTE, QUOTE))
        top, bottom = 10 ** 9, 10 ** 6
        self.assertEqual(row_of(book, ((top, 1), (0, 1))), ((top // 2, 1), (-top // 2, 1)))
        self.assertEqual(row_of(book, ((0, 1), (1, bottom))), ((1, 2 * bottom), (-1, 2 * bottom)))
        self.assertEqual(row_of(book, ((0, 1), (top, bottom - 1)))[0], (top // 2, bottom - 1))
        self.check_error(InvalidSale, {"index": 1}, row_of, book, ((0, 1), (top + 1, 1)))
        self.check_error(InvalidSale, {"index": 0}, row_of, book, ((1, bottom + 1), (0, 1)))
        self.check_error(InvalidSale, {"index": 1}, row_of, book, ((0, 1), (-1, bottom)))

    def test_number_of_quotes(self):
        full = Book(2, (QUOTE,) * 32)
        self.assertEqual(len(full.quotes), 32)
        self.assertEqual(Book(2, (QUOTE,) * 31).with_quote(*QUOTE), full)
        self.check_error(InvalidQuotes, {"index": 32}, Book, 2, (QUOTE,) * 33)
        self.check_error(InvalidQuotes, {"index": 32}, Book, 2, (QUOTE,) * 60)
        self.check_error(TooGreat, {"given": 33}, full.with_quote, *QUOTE)


if __name__ == "__main__":
    unittest.main()
