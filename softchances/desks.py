"""Desks: books that are led live, with changes that can be taken back or tried."""

from softchances.books import Book, check_book, end_by
from softchances.checks import check_index, check_lot, check_price
from softchances.errors import NothingToUndo, TooGreat
from softchances.kinds import is_price
from softchances.lots import lot_payoff
from softchances.piles import Pile, Trial
from softchances.ratios import ONE
from softchances.tight import tight_prices
from softchances.worths import greatest_worth, least_worth


class Desk:
    """A book that is led; its pile has the book now above all earlier ones."""

    def __init__(self, book):
        check_book(book)
        self.pile = Pile(book, None)

    @property
    def book(self):
        """The book as it is now."""
        return self.pile.top

    @property
    def is_sound(self):
        """Whether some chance keeps the book now."""
        return end_by(self.pile.top)[1] is not None

    @property
    def changes(self):
        """How many changes can be taken back."""
        return self.pile.height

    def quote(self, payoff, price):
        """A quote more, behind the others."""
        self.pile = Pile(self.book.with_quote(payoff, price), self.pile)

    def drop(self, index):
        """The quote with this index goes."""
        self.pile = Pile(self.book.without(index), self.pile)

    def raise_to(self, index, price):
        """The quote with this index has this price."""
        check_index(index, len(self.book.quotes))
        check_price(price)
        prices = [price if at == index else now for at, (_, now) in enumerate(self.book.quotes)]
        self.pile = Pile(priced(self.book, prices), self.pile)

    def tighten(self):
        """Each price becomes the least worth of its payoff."""
        prices = tight_prices(self.book)
        for price in prices:
            if not is_price(price):
                raise TooGreat(price)
        self.pile = Pile(priced(self.book, prices), self.pile)

    def news(self, lot):
        """A quote more, by which the lot has come."""
        check_lot(lot, self.book.outcomes)
        self.quote(lot_payoff(lot, self.book.outcomes), ONE)

    def least(self, payoff):
        """The least worth of the payoff by the book now."""
        return least_worth(self.book, payoff)

    def greatest(self, payoff):
        """The greatest worth of the payoff by the book now."""
        return greatest_worth(self.book, payoff)

    def undo(self):
        """Takes back the last change."""
        if self.pile.below is None:
            raise NothingToUndo()
        self.pile = self.pile.below

    def trial(self):
        """For a `with` statement, behind which the desk is as it was."""
        return Trial(self)

    def tried(self, action):
        """What the function returns for the desk, which is as it was then."""
        with self.trial() as desk:
            return action(desk)


def priced(book, prices):
    """The book with these prices for its quotes."""
    return Book(book.outcomes, tuple([(payoff, price) for (payoff, _), price in zip(book.quotes, prices)]))
