"""Books of quotes, what chances keep of them, and what sales lose by them."""

from softchances.checks import check_any_payoff, check_chance, check_index, check_outcomes
from softchances.checks import check_payoff, check_price, check_quotes, check_sale
from softchances.errors import InvalidText, NotABook, TooGreat
from softchances.limits import MOST_QUOTES
from softchances.ratios import ZERO, is_below, lowest, minus, times, total, weighed
from softchances.simplex import least_end
from softchances.texts import book_parts_in, book_words


class Book:
    """Quotes for some outcomes; it never changes."""

    def __init__(self, outcomes, quotes):
        check_outcomes(outcomes)
        check_quotes(quotes, outcomes)
        self._outcomes = outcomes
        self._quotes = quotes

    @staticmethod
    def read(text):
        """The book with this text."""
        book = book_with(text)
        if book is None:
            raise InvalidText(text)
        return book

    @property
    def outcomes(self):
        """How many outcomes there are."""
        return self._outcomes

    @property
    def quotes(self):
        """The tuple of the quotes."""
        return self._quotes

    def with_quote(self, payoff, price):
        """The book with one quote more behind the others."""
        check_payoff(payoff, self._outcomes)
        check_price(price)
        if len(self._quotes) == MOST_QUOTES:
            raise TooGreat(MOST_QUOTES + 1)
        return Book(self._outcomes, self._quotes + ((payoff, price),))

    def without(self, index):
        """The book without the quote with this index."""
        check_index(index, len(self._quotes))
        return Book(self._outcomes, self._quotes[:index] + self._quotes[index + 1:])

    def __str__(self):
        return " ".join(book_words(self._outcomes, self._quotes))

    def __repr__(self):
        return f"Book of {len(self._quotes)} quotes"

    def __eq__(self, other):
        return isinstance(other, Book) and self._outcomes == other._outcomes and self._quotes == other._quotes


def book_with(text):
    """The book with this text, None for anything else."""
    parts = book_parts_in(text) if isinstance(text, str) else None
    if parts is None:
        return None
    outcomes, quotes = parts
    return Book(outcomes, quotes)


def check_book(given):
    """NotABook if it is none."""
    if not isinstance(given, Book):
        raise NotABook(given)


def scaled_row(payoff, price):
    """The payoff less the price, times the bottom of the price: whole numbers."""
    top, bottom = price
    return tuple([number * bottom - top for number in payoff])


def scaled_rows(book):
    """The scaled rows of all quotes, for the simplex method."""
    return [scaled_row(payoff, price) for payoff, price in book.quotes]


def sale_for(weights, quotes):
    """The sale that does what weights of the scaled rows do."""
    return tuple([times(weight, (price[1], 1)) for weight, (_, price) in zip(weights, quotes)])


def end_by(book):
    """The end of the payoff 0: it tells whether some chance keeps the book."""
    return least_end(scaled_rows(book), (0,) * book.outcomes)


def worth(payoff, chance):
    """The worth of a payoff at a chance."""
    check_any_payoff(payoff)
    check_chance(chance, len(payoff))
    return weighed(payoff, chance)


def keeps(book, chance):
    """Whether the chance keeps the book."""
    check_book(book)
    check_chance(chance, book.outcomes)
    return len(lacking(book, chance)) == 0


def lacking(book, chance):
    """The list of the indexes of the quotes that the chance does not keep."""
    return [at for at, row in enumerate(scaled_rows(book)) if is_below(weighed(row, chance), ZERO)]


def row_of(book, sale):
    """The row of a sale: a tuple of fractions, one for each outcome."""
    check_book(book)
    check_sale(sale, len(book.quotes))
    return row_by(book, sale)


def row_by(book, sale):
    """The row of a sale, without a look at what is passed."""
    return tuple([row_number(book.quotes, sale, outcome) for outcome in range(book.outcomes)])


def row_number(quotes, sale, outcome):
    """What a sale comes to at an outcome."""
    return total([times(minus((payoff[outcome], 1), price), number)
                  for (payoff, price), number in zip(quotes, sale)])


def is_sound(book):
    """Whether some chance keeps the book."""
    return chance_for(book) is not None


def chance_for(book):
    """A chance that keeps the book, None if there is none."""
    check_book(book)
    _, chance, _ = end_by(book)
    return chance


def losing_sale(book):
    """A sale that loses surely, None if there is none."""
    check_book(book)
    _, chance, weights = end_by(book)
    if chance is not None:
        return None
    whole = [top for top, _ in sale_for(weights, book.quotes)]
    return tuple([(number, 1) for number in lowest(whole)])
