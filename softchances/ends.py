"""Ends of payoffs by sound books, as later modules need them."""

from softchances.books import end_by, scaled_rows
from softchances.errors import NotSound, TooGreat, Unlike
from softchances.limits import MOST_LISTED
from softchances.simplex import least_end


def sound_end(book, payoff):
    """The triple that `least_end` tells; NotSound if no chance keeps the book."""
    end = least_end(scaled_rows(book), payoff)
    if end[1] is None:
        raise NotSound()
    return end


def check_sound(book):
    """NotSound if no chance keeps the book."""
    if end_by(book)[1] is None:
        raise NotSound()


def check_like(book, other):
    """Unlike for two books with unlike numbers of outcomes."""
    if book.outcomes != other.outcomes:
        raise Unlike()


def check_both(book, other):
    """Unlike for two books with unlike numbers of outcomes, NotSound for either."""
    check_like(book, other)
    check_sound(book)
    check_sound(other)


def check_listed(book):
    """TooGreat for a book with too many outcomes to list its corners or lots."""
    if book.outcomes > MOST_LISTED:
        raise TooGreat(book.outcomes)


def opposite_payoff(payoff):
    """The payoff with the other sign at each outcome."""
    return tuple([-number for number in payoff])
