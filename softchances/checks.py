"""Checks of what is passed: each one raises the error that the document tells."""

from softchances.errors import InvalidBounds, InvalidChance, InvalidFraction, InvalidIndex
from softchances.errors import InvalidLot, InvalidNumber, InvalidOrder, InvalidPayoff
from softchances.errors import InvalidQuotes, InvalidSale
from softchances.kinds import is_fraction, is_integer_from, is_lot, is_outcome_number
from softchances.kinds import is_payoff, is_price, is_quote, is_share
from softchances.limits import MOST_OUTCOMES, MOST_QUOTES
from softchances.ratios import ONE, ZERO, is_below, plus


def check_outcomes(given):
    """InvalidNumber if there can not be so many outcomes."""
    if not is_outcome_number(given):
        raise InvalidNumber(given)


def check_quotes(given, outcomes):
    """InvalidQuotes with the first element that is no quote or one too many."""
    if not isinstance(given, tuple):
        raise InvalidQuotes(None)
    for at, quote in enumerate(given):
        if at == MOST_QUOTES or not is_quote(quote, outcomes):
            raise InvalidQuotes(at)


def check_payoff(given, outcomes):
    """InvalidPayoff if it is no payoff for so many outcomes."""
    if not is_payoff(given, outcomes):
        raise InvalidPayoff(given)


def check_any_payoff(given):
    """InvalidPayoff if it is no payoff for any number of outcomes."""
    if not any([is_payoff(given, outcomes) for outcomes in range(2, MOST_OUTCOMES + 1)]):
        raise InvalidPayoff(given)


def check_price(given):
    """InvalidFraction if it is no price."""
    if not is_price(given):
        raise InvalidFraction(given)


def check_lot(given, outcomes):
    """InvalidLot if it is no lot of so many outcomes."""
    if not is_lot(given, outcomes):
        raise InvalidLot(given)


def check_index(given, many):
    """InvalidIndex if it is no index of one of so many."""
    if not is_integer_from(given, 0, many - 1):
        raise InvalidIndex(given)


def check_chance(given, outcomes):
    """InvalidChance with the first wrong element, None for the whole value."""
    if not isinstance(given, tuple) or len(given) != outcomes:
        raise InvalidChance(None)
    so_far = ZERO
    for at, share in enumerate(given):
        if not is_share(share):
            raise InvalidChance(at)
        so_far = plus(so_far, share)
        if is_below(ONE, so_far):
            raise InvalidChance(at)
    if is_below(so_far, ONE):
        raise InvalidChance(None)


def check_sale(given, many):
    """InvalidSale with the first wrong element, None for the whole value."""
    if not isinstance(given, tuple) or len(given) != many:
        raise InvalidSale(None)
    for at, number in enumerate(given):
        if not is_fraction(number) or number[0] < 0:
            raise InvalidSale(at)


def check_bounds(given):
    """InvalidBounds with the first wrong element, None for the whole value."""
    if not isinstance(given, tuple) or len(given) not in (4, 8, 16, 32):
        raise InvalidBounds(None)
    for at, share in enumerate(given):
        if not is_share(share) or not is_bound_at(given, at):
            raise InvalidBounds(at)


def is_bound_at(bounds, at):
    """Whether a share may stand there, all shares before it being bounds."""
    if at == 0:
        return bounds[0] == ZERO
    if at == len(bounds) - 1 and bounds[at] != ONE:
        return False
    smaller = [at - (1 << bit) for bit in range(at.bit_length()) if at >> bit & 1]
    return not any([is_below(bounds[at], bounds[place]) for place in smaller])


def check_order(given, outcomes):
    """InvalidOrder with the first wrong element, None for the whole value."""
    if not isinstance(given, tuple) or len(given) != outcomes:
        raise InvalidOrder(None)
    for at, outcome in enumerate(given):
        if not is_integer_from(outcome, 0, outcomes - 1) or outcome in given[:at]:
            raise InvalidOrder(at)
