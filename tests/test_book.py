import random
import unittest

from softchances.books import Book
from softchances.errors import (InvalidFraction, InvalidIndex, InvalidNumber, InvalidPayoff, InvalidQuotes,
                                TooGreat)
from tests.tools import NO_PRICES, ODD_VALUES, RAIN, Told, any_book, no_indexes, no_payoffs, some_books

QUOTE = ((1, 0), (1, 2))


class Making(Told, unittest.TestCase):
    def test_keeps_what_was_passed(self):
        quotes = (((1, -2), (-1, 3)), ((0, 0), (5, 1)))
        for book in (Book(2, quotes), Book(outcomes=2, quotes=quotes), Book(quotes=quotes, outcomes=2)):
            self.assertEqual(book.outcomes, 2)
            self.assertIs(type(book.outcomes), int)
            self.assertIs(book.quotes, quotes)

    def test_wrong_outcomes(self):
        wrong = tuple(value for value in ODD_VALUES) + (1, -2, "2", (2,), [2], True, False)
        for value in wrong:
            self.check_error_both_ways(InvalidNumber, {"given": value}, Book, "outcomes quotes", value, ())

    def test_outcomes_are_looked_at_first(self):
        for quotes in (None, [], ((1, 2),), (QUOTE,) * 33):
            self.check_error_both_ways(InvalidNumber, {"given": True}, Book, "outcomes quotes", True, quotes)
            self.check_error_both_ways(InvalidNumber, {"given": 7}, Book, "outcomes quotes", 7, quotes)

    def test_no_tuple(self):
        for value in ODD_VALUES + ([QUOTE], iter(()), {QUOTE: 1}):
            self.check_error_both_ways(InvalidQuotes, {"index": None}, Book, "outcomes quotes", 2, value)

    def test_first_wrong_quote(self):
        wrong = ODD_VALUES + ((), (1,), ((1, 0),), ((1, 0), (1, 2), 3), [(1, 0), (1, 2)], ((1, 2), (1, 0)))
        wrong += tuple((payoff, (1, 2)) for payoff in no_payoffs(2))
        wrong += tuple(((1, 0), price) for price in NO_PRICES)
        for value in wrong:
            for at in (0, 1, 31):
                quotes = (QUOTE,) * at + (value, QUOTE, None)
                self.check_error_both_ways(InvalidQuotes, {"index": at}, Book, "outcomes quotes", 2, quotes)

    def test_thirty_third_quote(self):
        for extra in (QUOTE, None, ((1, 0), (2, 4))):
            self.check_error(InvalidQuotes, {"index": 32}, Book, 2, (QUOTE,) * 32 + (extra,))
        self.check_error(InvalidQuotes, {"index": 31}, Book, 2, (QUOTE,) * 31 + (None, QUOTE))
        self.check_error(InvalidQuotes, {"index": 0}, Book, 3, (QUOTE,) * 40)

    def test_quotes_for_other_outcomes(self):
        for outcomes in range(2, 7):
            for other in range(2, 7):
                quotes = (((1,) * other, (1, 1)),)
                if other == outcomes:
                    self.assertEqual(Book(outcomes, quotes).quotes, quotes)
                else:
                    self.check_error(InvalidQuotes, {"index": 0}, Book, outcomes, quotes)

    def test_true_and_false_are_no_integers(self):
        for quote in (((True, 0), (1, 2)), ((1, False), (1, 2)), ((1, 0), (True, 2)), ((1, 0), (1, True))):
            self.check_error(InvalidQuotes, {"index": 0}, Book, 2, (quote,))


class Showing(Told, unittest.TestCase):
    def test_text(self):
        self.assertEqual(str(Book(2, ())), "2:")
        self.assertEqual(str(Book(6, ())), "6:")
        self.assertEqual(str(Book(3, (((1, 0, 0), (1, 3)), ((0, 1, -2), (-1, 4))))), "3: 1,0,0>=1/3 0,1,-2>=-1/4")
        self.assertEqual(str(Book(2, (((1000, -1000), (2, 1)), ((0, 0), (0, 1)), ((0, 0), (-7, 1))))),
                         "2: 1000,-1000>=2/1 0,0>=0/1 0,0>=-7/1")

    def test_repr_for_all_numbers(self):
        for many in range(33):
            self.assertEqual(repr(Book(2, (QUOTE,) * many)), f"Book of {many} quotes")

    def test_truth(self):
        for book in (Book(2, ()), RAIN, Book(2, (((0, 0), (1, 1)),))):
            self.assertIs(bool(book), True)


class Equality(unittest.TestCase):
    def test_same_text(self):
        for book in some_books(1, sound=False):
            again = Book(book.outcomes, tuple(list(book.quotes)))
            self.assertTrue(book == again and again == book and book == book)
            self.assertFalse(book != again or again != book or book != book)

    def test_other_texts(self):
        books = [Book(2, ()), Book(3, ()), Book(2, (QUOTE,)), Book(2, (QUOTE, QUOTE)), Book(2, (((1, 0), (1, 3)),)),
                 Book(2, (((0, 1), (1, 2)),)), Book(2, (((2, 0), (1, 1)),)), Book(2, (QUOTE, ((0, 1), (1, 2)))),
                 Book(2, (((0, 1), (1, 2)), QUOTE)), RAIN]
        for at, book in enumerate(books):
            for place, other in enumerate(books):
                self.assertIs(book == other, at == place)
                self.assertIs(book != other, at != place)

    def test_other_classes(self):
        for value in ODD_VALUES + ("2:", (2, ()), [2, ()], Book):
            if value is RAIN:
                continue
            self.assertIs(Book(2, ()) == value, False)
            self.assertIs(value == Book(2, ()), False)
            self.assertIs(Book(2, ()) != value, True)
            self.assertIs(value != Book(2, ()), True)


class Changed(Told, unittest.TestCase):
    def test_with_quote(self):
        for book in (Book(3, ()), RAIN):
            before = str(book)
            payoff, price = (5, 0, -7), (-2, 3)
            for more in (book.with_quote(payoff, price), book.with_quote(price=price, payoff=payoff)):
                self.assertEqual(more, Book(3, book.quotes + ((payoff, price),)))
            self.assertEqual(str(book), before)

    def test_without(self):
        self.assertEqual(str(RAIN.without(0)), "3: 0,1,0>=1/4 0,0,1>=1/4")
        self.assertEqual(str(RAIN.without(1)), "3: 1,0,0>=1/3 0,0,1>=1/4")
        self.assertEqual(str(RAIN.without(index=2)), "3: 1,0,0>=1/3 0,1,0>=1/4")
        self.assertEqual(str(RAIN), "3: 1,0,0>=1/3 0,1,0>=1/4 0,0,1>=1/4")
        self.assertEqual(Book(2, (QUOTE,)).without(0), Book(2, ()))

    def test_without_takes_just_one(self):
        rng = random.Random(5)
        for many in (1, 2, 7, 32):
            book = any_book(rng, 4, many)
            for at in range(many):
                self.assertEqual(book.without(at).quotes, book.quotes[:at] + book.quotes[at + 1:])

    def test_wrong_payoff(self):
        for book in (RAIN, Book(3, ()), Book(3, (((1, 0, 0), (1, 2)),) * 32)):
            for payoff in no_payoffs(3):
                for price in ((1, 2), (2, 4), None):
                    self.check_error_both_ways(InvalidPayoff, {"given": payoff}, book.with_quote, "payoff price",
                                               payoff, price)

    def test_wrong_price(self):
        for book in (RAIN, Book(3, ()), Book(3, (((1, 0, 0), (1, 2)),) * 32)):
            before = str(book)
            for price in NO_PRICES + ODD_VALUES:
                self.check_error_both_ways(InvalidFraction, {"given": price}, book.with_quote, "payoff price",
                                           (1, 0, 0), price)
            self.assertEqual(str(book), before)

    def test_too_many_last(self):
        full = Book(2, (QUOTE,) * 32)
        self.check_error_both_ways(TooGreat, {"given": 33}, full.with_quote, "payoff price", *QUOTE)
        self.check_error(InvalidPayoff, {"given": None}, full.with_quote, None, None)
        self.check_error(InvalidFraction, {"given": None}, full.with_quote, (1, 0), None)
        self.assertEqual(len(full.quotes), 32)

    def test_wrong_index(self):
        for book in (RAIN, Book(2, ()), Book(2, (QUOTE,) * 32)):
            for index in no_indexes(len(book.quotes)) + (len(book.quotes) + 1, [], "", b"0", {}):
                self.check_error_both_ways(InvalidIndex, {"given": index}, book.without, "index", index)


if __name__ == "__main__":
    unittest.main()
