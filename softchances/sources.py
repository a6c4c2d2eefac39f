"""Several books at once, and books of which one quote may be wrong."""

from softchances.books import Book, check_book, lacking, scaled_rows
from softchances.bounds import bounds_of
from softchances.checks import check_chance, check_payoff, check_share
from softchances.ends import check_both, check_like, opposite_payoff
from softchances.errors import NotSound, TooGreat
from softchances.limits import MOST_QUOTES
from softchances.lots import lot_at
from softchances.ratios import ONE, is_below, least_of, minus, opposite, plus, times
from softchances.simplex import least_end
from softchances.worths import least_worth


def both(book, other):
    """The book of both, the quotes of the first one ahead."""
    check_book(book)
    check_book(other)
    check_like(book, other)
    quotes = book.quotes + other.quotes
    if len(quotes) > MOST_QUOTES:
        raise TooGreat(len(quotes))
    return Book(book.outcomes, quotes)


def do_meet(book, other):
    """Whether some chance keeps both books."""
    check_book(book)
    check_book(other)
    check_like(book, other)
    return least_end(scaled_rows(book) + scaled_rows(other), (0,) * book.outcomes)[1] is not None


def least_between(book, other, payoff):
    """The least worth of the payoff over all chances between the two sets."""
    check_book(book)
    check_book(other)
    check_payoff(payoff, book.outcomes)
    check_both(book, other)
    return least_of([least_worth(book, payoff), least_worth(other, payoff)])


def least_blend(book, other, share, payoff):
    """The least worth of the payoff over the blend of the two sets."""
    check_book(book)
    check_book(other)
    check_share(share)
    check_payoff(payoff, book.outcomes)
    check_both(book, other)
    return plus(times(minus(ONE, share), least_worth(book, payoff)), times(share, least_worth(other, payoff)))


def least_but_one(book, payoff):
    """The least worth of the payoff over all chances that are left if one quote may be wrong."""
    check_book(book)
    check_payoff(payoff, book.outcomes)
    return least_left(book, payoff)


def greatest_but_one(book, payoff):
    """The greatest worth of the payoff over all chances that are left if one quote may be wrong."""
    check_book(book)
    check_payoff(payoff, book.outcomes)
    return opposite(least_left(book, opposite_payoff(payoff)))


def is_left(book, chance):
    """Whether the chance keeps all quotes but at most one."""
    check_book(book)
    check_chance(chance, book.outcomes)
    return len(lacking(book, chance)) <= 1


def widest_lot(book):
    """The first lot for which the greatest chance less the least one is the greatest of all."""
    widths = lot_widths(bounds_of(book))
    widest = 0
    for place, width in enumerate(widths):
        if is_below(widths[widest], width):
            widest = place
    return lot_at(widest)


def least_left(book, payoff):
    """The least worth if one quote may be wrong, without a look at what is passed."""
    ends = [least_end(rows, payoff)[0] for rows in rows_but_one(scaled_rows(book))]
    reached = [least for least in ends if least is not None]
    if not reached:
        raise NotSound()
    return least_of(reached)


def rows_but_one(rows):
    """The list of all rows but one, for each of them; all rows if there is none."""
    if not rows:
        return [rows]
    return [rows[:at] + rows[at + 1:] for at in range(len(rows))]


def lot_widths(least):
    """The list of the greatest chance less the least one of each lot, of its least chances."""
    # What a lot has at the most is what the others have not at the least.
    return [minus(minus(ONE, missing), number) for number, missing in zip(least, least[::-1])]
