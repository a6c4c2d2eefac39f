"""Which quotes are tight or needless, what follows, and which books are alike."""

from softchances.books import check_book, scaled_row, scaled_rows
from softchances.checks import check_index, check_payoff, check_price
from softchances.ends import check_both, check_sound, sound_end
from softchances.errors import TooGreat
from softchances.ratios import ZERO, is_below, weighed
from softchances.simplex import least_end

_MOST_SIFTED = 10


def is_tight(book, index):
    """Whether the price of the quote is the least worth of its payoff."""
    check_book(book)
    check_index(index, len(book.quotes))
    payoff, price = book.quotes[index]
    return sound_end(book, payoff)[0] == price


def is_needless(book, index):
    """Whether the book without the quote has the same set."""
    check_book(book)
    check_index(index, len(book.quotes))
    check_sound(book)
    return is_spare(scaled_rows(book), index)


def tight_prices(book):
    """The tuple of the least worths of the payoffs of all quotes."""
    check_book(book)
    check_sound(book)
    return tuple([sound_end(book, payoff)[0] for payoff, _ in book.quotes])


def needless(book):
    """The ascending tuple of the indexes of all quotes that are needless, each by itself."""
    check_book(book)
    check_sound(book)
    rows = scaled_rows(book)
    return tuple([index for index in range(len(rows)) if is_spare(rows, index)])


def least_quotes(book):
    """The ascending tuple of all choices of as few quotes as can be with the same set."""
    check_book(book)
    check_sound(book)
    rows = scaled_rows(book)
    if len(rows) > _MOST_SIFTED:
        raise TooGreat(len(rows))
    # What keeps some quotes alone and not the book rules out every choice
    # among the quotes that it keeps, so few choices need to be looked into.
    strays, picks, found = [], [()], []
    while not found:
        for pick in picks:
            if is_among(pick, strays):
                continue
            chance = chance_beyond([rows[at] for at in pick], rows)
            if chance is None:
                found.append(pick)
            else:
                strays.append([keeps_row(row, chance) for row in rows])
        picks = longer_picks(picks, len(rows))
    return tuple(found)


def follows(book, payoff, price):
    """Whether the quote follows from the book."""
    check_book(book)
    check_payoff(payoff, book.outcomes)
    check_price(price)
    return not is_below(sound_end(book, scaled_row(payoff, price))[0], ZERO)


def is_within(book, other):
    """Whether each chance that keeps the first book keeps the other one."""
    check_book(book)
    check_book(other)
    check_both(book, other)
    return chance_beyond(scaled_rows(book), scaled_rows(other)) is None


def are_alike(book, other):
    """Whether both books have the same set."""
    return parting_chance(book, other) is None


def parting_chance(book, other):
    """A chance that keeps one of both books alone, None if they are alike."""
    check_book(book)
    check_book(other)
    check_both(book, other)
    one, two = scaled_rows(book), scaled_rows(other)
    chance = chance_beyond(one, two)
    return chance_beyond(two, one) if chance is None else chance


def chance_beyond(rows, others):
    """A chance that keeps the rows and not all of the others, None if there is none."""
    for row in others:
        least, chance, _ = least_end(rows, row)
        if is_below(least, ZERO):
            return chance
    return None


def is_spare(rows, index):
    """Whether the other rows are enough to keep this one."""
    return chance_beyond(rows[:index] + rows[index + 1:], [rows[index]]) is None


def keeps_row(row, chance):
    """Whether the chance keeps the row."""
    return not is_below(weighed(row, chance), ZERO)


def is_among(pick, strays):
    """Whether some stray keeps all quotes of the pick."""
    return any([all([kept[at] for at in pick]) for kept in strays])


def longer_picks(picks, many):
    """All ascending picks with one index more, ascending like those passed."""
    return [pick + (at,) for pick in picks for at in range(many) if not pick or at > pick[-1]]
