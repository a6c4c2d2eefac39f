"""The least worth behind the news of a lot, and behind what a teller says.

A teller who says a lot must say it for the outcomes that are bound to it, and
may keep it for some of its other outcomes. For the news itself all outcomes
of the lot are bound to it.
"""

from softchances.ends import opposite_payoff, sound_end
from softchances.errors import Never
from softchances.lots import lot_payoff
from softchances.ratios import ZERO, divided, total, weighed


def end_behind(book, bound, lot, payoff):
    """The triple of the least worth behind, a chance with it, and weights that hold it.

    NotSound if no chance keeps the book, Never if the lot has no chance.
    The weights are for the scaled rows: what is left of the payoff, less the
    worth, on the outcomes for which the lot is said, and of 0 elsewhere, is
    at least 0.
    """
    chance, said = likeliest(book, lot), lot
    if chance_on(chance, said) == ZERO:
        raise Never()
    while True:
        # A lower worth exists just if some chance makes this sum fall below 0.
        worth = worth_within(payoff, chance, said)
        gaps = gaps_below(payoff, worth, bound, lot)
        least, other, weights = sound_end(book, gaps)
        if least == ZERO:
            return worth, chance, weights
        chance, said = other, [at for at, gap in enumerate(gaps) if at in bound or gap < 0]


def may_come(book, lot):
    """Whether the lot has a chance above 0 at some chance of the set."""
    return chance_on(likeliest(book, lot), lot) != ZERO


def likeliest(book, lot):
    """A chance of the set at which the lot has its greatest chance."""
    return sound_end(book, opposite_payoff(lot_payoff(lot, book.outcomes)))[1]


def chance_on(chance, lot):
    """The chance of the lot."""
    return total([chance[outcome] for outcome in lot])


def worth_within(payoff, chance, lot):
    """The worth of the payoff behind the news of a lot with a chance above 0."""
    whole = weighed([payoff[outcome] for outcome in lot], [chance[outcome] for outcome in lot])
    return divided(whole, chance_on(chance, lot))


def gaps_below(payoff, worth, bound, lot):
    """The payoff less the worth, in whole numbers, where saying the lot can not be helped or lowers it."""
    top, bottom = worth
    gaps = [number * bottom - top for number in payoff]
    return tuple([gap if at in bound else min(gap, 0) if at in lot else 0 for at, gap in enumerate(gaps)])
