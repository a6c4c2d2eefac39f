"""What a book that is not sound loses, and how it can be mended."""

from softchances.books import check_book, is_sound, sale_for, scaled_rows
from softchances.ratios import ZERO, over_rest, set_against
from softchances.simplex import least_end


def loss(book):
    """The loss of the book."""
    check_book(book)
    return set_against(loss_end(book)[0])


def losing_mix(book):
    """A sale with numbers that add up to 1 that loses so much, None for a sound book."""
    check_book(book)
    beyond, _, weights = loss_end(book)
    if beyond == ZERO:
        return None
    return over_rest(sale_for(weights, book.quotes), beyond)


def least_cost(book):
    """The least cost of a mend."""
    check_book(book)
    return set_against(mend_end(book)[0])


def cheapest_mend(book):
    """A mend with the least cost."""
    check_book(book)
    beyond, chance, _ = mend_end(book)
    return over_rest(chance[book.outcomes:], beyond)


def culprits(book):
    """The ascending tuple of the indexes of all culprits, () for a sound book."""
    if is_sound(book):
        return ()
    return tuple([at for at in range(len(book.quotes)) if is_sound(book.without(at))])


def loss_end(book):
    """The end of one outcome more, on which each quote pays 1 more than its price.

    The chance of this outcome, set against that of all others, is the number
    by which the prices must fall.
    """
    rows = [row + (price[1],) for row, (_, price) in zip(scaled_rows(book), book.quotes)]
    return least_end(rows, (0,) * book.outcomes + (1,))


def mend_end(book):
    """The end of an outcome more for each quote, on which it pays 1 more than its price."""
    many = len(book.quotes)
    rows = [row + gain_at(at, many, price[1])
            for at, (row, (_, price)) in enumerate(zip(scaled_rows(book), book.quotes))]
    return least_end(rows, (0,) * book.outcomes + (1,) * many)


def gain_at(at, many, gain):
    """The row of a gain at one place, and 0 at all others."""
    return tuple([gain if place == at else 0 for place in range(many)])
