"""Worths behind what a teller says, of whose habit nothing is known."""

from softchances.behind import end_behind, may_come
from softchances.books import check_book
from softchances.checks import check_index, check_payoff, check_sayings
from softchances.ends import check_sound, opposite_payoff
from softchances.ratios import is_below, opposite
from softchances.worths import greatest_worth, least_worth


def bound_to(book, sayings, saying):
    """The lot of the outcomes that are in this saying alone."""
    check_said(book, sayings, saying)
    check_sound(book)
    return only_in(sayings, saying)


def least_told(book, sayings, saying, payoff):
    """The least worth of the payoff behind the saying."""
    check_said(book, sayings, saying)
    check_payoff(payoff, book.outcomes)
    return told_end(book, sayings, saying, payoff)


def greatest_told(book, sayings, saying, payoff):
    """The greatest worth of the payoff behind the saying."""
    check_said(book, sayings, saying)
    check_payoff(payoff, book.outcomes)
    return opposite(told_end(book, sayings, saying, opposite_payoff(payoff)))


def is_told_nothing(book, sayings, payoff):
    """Whether behind no saying the least worth is greater, or the greatest worth less, than by the book."""
    check_book(book)
    check_sayings(sayings, book.outcomes)
    check_payoff(payoff, book.outcomes)
    least, greatest = least_worth(book, payoff), greatest_worth(book, payoff)
    return not any([is_below(least, least_told(book, sayings, at, payoff))
                    or is_below(greatest_told(book, sayings, at, payoff), greatest)
                    for at, lot in enumerate(sayings) if may_come(book, lot)])


def check_said(book, sayings, saying):
    """What is raised for a book, sayings and the index of one."""
    check_book(book)
    check_sayings(sayings, book.outcomes)
    check_index(saying, len(sayings))


def only_in(sayings, saying):
    """The lot of the outcomes that are in no other saying."""
    others = sayings[:saying] + sayings[saying + 1:]
    return tuple([outcome for outcome in sayings[saying] if not any([outcome in lot for lot in others])])


def told_end(book, sayings, saying, payoff):
    """The least worth behind the saying, without a look at what is passed."""
    return end_behind(book, only_in(sayings, saying), sayings[saying], payoff)[0]
