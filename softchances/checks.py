"""Checks of what is passed: each one raises the error that the document tells."""

from softchances.errors import InvalidActs, InvalidBounds, InvalidChance, InvalidFraction, InvalidIndex
from softchances.errors import InvalidLot, InvalidMasses, InvalidName, InvalidNumber, InvalidOrder, InvalidPayoff
from softchances.errors import InvalidQuestion, InvalidQuotes, InvalidRanges, InvalidSale, InvalidSayings
from softchances.kinds import is_any_payoff, is_fraction, is_full_lot, is_integer_from, is_lot, is_mass, is_name
from softchances.kinds import is_outcome_number, is_payoff, is_price, is_quote, is_range, is_share
from softchances.limits import MOST_ACTS, MOST_LISTED, MOST_QUOTES, MOST_STEPS
from softchances.ratios import ONE, ZERO, is_below, plus

_MOST_SAYINGS = 8
_MOST_CLAIMED_STEPS = 8


def check_outcomes(given):
    """InvalidNumber if there can not be so many outcomes."""
    if not is_outcome_number(given):
        raise InvalidNumber(given)


def check_few_outcomes(given):
    """InvalidNumber if masses can not be for so many outcomes."""
    if not is_integer_from(given, 2, MOST_LISTED):
        raise InvalidNumber(given)


def check_steps(given):
    """InvalidNumber if a walk can not go on for so many steps."""
    if not is_integer_from(given, 0, MOST_STEPS):
        raise InvalidNumber(given)


def check_few_steps(given):
    """InvalidNumber if no claim can tell of a walk with so many steps."""
    if not is_integer_from(given, 0, _MOST_CLAIMED_STEPS):
        raise InvalidNumber(given)


def check_quotes(given, outcomes):
    """InvalidQuotes with the first element that is no quote or one too many."""
    if not isinstance(given, tuple):
        raise InvalidQuotes(None)
    for at, quote in enumerate(given):
        if at == MOST_QUOTES or not is_quote(quote, outcomes):
            raise InvalidQuotes(at)


def check_payoff(given, outcomes):
    """InvalidPayoff if it is no payoff for so many outcomes."""
    if not is_payoff(given, outcomes):
        raise InvalidPayoff(given)


def check_any_payoff(given):
    """InvalidPayoff if it is no payoff for any number of outcomes."""
    if not is_any_payoff(given):
        raise InvalidPayoff(given)


def check_price(given):
    """InvalidFraction if it is no price."""
    if not is_price(given):
        raise InvalidFraction(given)


def check_share(given):
    """InvalidFraction if it is no share that may be passed."""
    if not is_share(given):
        raise InvalidFraction(given)


def check_lot(given, outcomes):
    """InvalidLot if it is no lot of so many outcomes."""
    if not is_lot(given, outcomes):
        raise InvalidLot(given)


def check_full_lot(given, outcomes):
    """InvalidLot if it is no lot of so many outcomes, or the empty one."""
    if not is_full_lot(given, outcomes):
        raise InvalidLot(given)


def check_index(given, many):
    """InvalidIndex if it is no index of one of so many."""
    if not is_integer_from(given, 0, many - 1):
        raise InvalidIndex(given)


def check_chance(given, outcomes):
    """InvalidChance with the first wrong element, None for the whole value."""
    if not isinstance(given, tuple) or len(given) != outcomes:
        raise InvalidChance(None)
    so_far = ZERO
    for at, share in enumerate(given):
        if not is_share(share):
            raise InvalidChance(at)
        so_far = plus(so_far, share)
        if is_below(ONE, so_far):
            raise InvalidChance(at)
    if is_below(so_far, ONE):
        raise InvalidChance(None)


def check_short_chance(given):
    """InvalidChance likewise, for a chance of two to five outcomes."""
    if not isinstance(given, tuple) or not 2 <= len(given) <= MOST_LISTED:
        raise InvalidChance(None)
    check_chance(given, len(given))


def check_sale(given, many):
    """InvalidSale with the first wrong element, None for the whole value."""
    if not isinstance(given, tuple) or len(given) != many:
        raise InvalidSale(None)
    for at, number in enumerate(given):
        if not is_fraction(number) or number[0] < 0:
            raise InvalidSale(at)


def check_bounds(given):
    """InvalidBounds with the first wrong element, None for the whole value."""
    if not isinstance(given, tuple) or len(given) not in (4, 8, 16, 32):
        raise InvalidBounds(None)
    for at, share in enumerate(given):
        if not is_share(share) or not is_bound_at(given, at):
            raise InvalidBounds(at)


def is_bound_at(bounds, at):
    """Whether a share may stand there, all shares before it being bounds."""
    if at == 0:
        return bounds[0] == ZERO
    if at == len(bounds) - 1 and bounds[at] != ONE:
        return False
    smaller = [at - (1 << bit) for bit in range(at.bit_length()) if at >> bit & 1]
    return not any([is_below(bounds[at], bounds[place]) for place in smaller])


def check_order(given, outcomes):
    """InvalidOrder with the first wrong element, None for the whole value."""
    if not isinstance(given, tuple) or len(given) != outcomes:
        raise InvalidOrder(None)
    for at, outcome in enumerate(given):
        if not is_integer_from(outcome, 0, outcomes - 1) or outcome in given[:at]:
            raise InvalidOrder(at)


def check_masses(given, outcomes):
    """InvalidMasses with the first wrong element, None for the whole value."""
    if not isinstance(given, tuple):
        raise InvalidMasses(None)
    so_far = ZERO
    for at, mass in enumerate(given):
        if not is_mass(mass, outcomes) or at > 0 and mass[0] <= given[at - 1][0]:
            raise InvalidMasses(at)
        so_far = plus(so_far, mass[1])
        if is_below(ONE, so_far):
            raise InvalidMasses(at)
    if is_below(so_far, ONE):
        raise InvalidMasses(None)


def check_ranges(given, least, most):
    """InvalidRanges with the first wrong element, None for the whole value."""
    if not isinstance(given, tuple) or not least <= len(given) <= most:
        raise InvalidRanges(None)
    for at, pair in enumerate(given):
        if not is_range(pair):
            raise InvalidRanges(at)


def check_question(given, outcomes):
    """InvalidQuestion with the first wrong element, None for the whole value."""
    if not isinstance(given, tuple) or len(given) < 2:
        raise InvalidQuestion(None)
    asked = ()
    for at, lot in enumerate(given):
        if not is_full_lot(lot, outcomes) or any([outcome in asked for outcome in lot]):
            raise InvalidQuestion(at)
        asked = asked + lot
    if len(asked) < outcomes:
        raise InvalidQuestion(None)


def check_sayings(given, outcomes):
    """InvalidSayings with the first wrong element, None for the whole value."""
    if not isinstance(given, tuple) or len(given) < 2:
        raise InvalidSayings(None)
    for at, lot in enumerate(given):
        if at == _MOST_SAYINGS or not is_full_lot(lot, outcomes) or lot in given[:at]:
            raise InvalidSayings(at)
    if any([all([outcome not in saying for saying in given]) for outcome in range(outcomes)]):
        raise InvalidSayings(None)


def check_acts(given, outcomes):
    """InvalidActs with the first wrong element, None for the whole value."""
    if not isinstance(given, tuple) or len(given) == 0:
        raise InvalidActs(None)
    for at, payoff in enumerate(given):
        if at == MOST_ACTS or not is_payoff(payoff, outcomes):
            raise InvalidActs(at)


def check_name(given):
    """InvalidName if it is no name for a shelf."""
    if not is_name(given):
        raise InvalidName(given)
