"""Least and greatest worths by sound books, and what holds them."""

from softchances.books import check_book, sale_for
from softchances.checks import check_lot, check_payoff
from softchances.ends import opposite_payoff, sound_end
from softchances.lots import lot_payoff
from softchances.ratios import opposite


def least_worth(book, payoff):
    """The least worth of the payoff at all chances of the set."""
    return checked_end(book, payoff)[0]


def greatest_worth(book, payoff):
    """The greatest worth of the payoff at all chances of the set."""
    return opposite(checked_top(book, payoff)[0])


def least_chance(book, lot):
    """The least chance of the lot at all chances of the set."""
    check_book(book)
    check_lot(lot, book.outcomes)
    return least_worth(book, lot_payoff(lot, book.outcomes))


def greatest_chance(book, lot):
    """The greatest chance of the lot at all chances of the set."""
    check_book(book)
    check_lot(lot, book.outcomes)
    return greatest_worth(book, lot_payoff(lot, book.outcomes))


def end_chance(book, payoff):
    """A chance of the set at which the payoff has its least worth."""
    return checked_end(book, payoff)[1]


def hedge(book, payoff):
    """A sale such that the payoff less its row is at least the least worth at each outcome."""
    return sale_for(checked_end(book, payoff)[2], book.quotes)


def checked_end(book, payoff):
    """The end of the payoff, behind a look at what is passed."""
    check_book(book)
    check_payoff(payoff, book.outcomes)
    return sound_end(book, payoff)


def checked_top(book, payoff):
    """The end of the payoff with the other sign, behind a look at what is passed."""
    check_book(book)
    check_payoff(payoff, book.outcomes)
    return sound_end(book, opposite_payoff(payoff))
