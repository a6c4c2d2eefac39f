"""What a value must be to pass for an integer, a fraction, a payoff and so on."""

from math import gcd

from softchances.limits import MOST_BOTTOM, MOST_NUMBER, MOST_OUTCOMES
from softchances.limits import MOST_PRICE_BOTTOM, MOST_PRICE_TOP, MOST_TOP

_LETTERS = "abcdefghijklmnopqrstuvwxyz"
_MOST_LETTERS = 8


def is_integer(value):
    """Whether it is an integer, True and False being none."""
    return isinstance(value, int) and not isinstance(value, bool)


def is_integer_from(value, low, high):
    """Whether it is an integer from low to high."""
    return is_integer(value) and low <= value <= high


def is_any_fraction(value):
    """Whether it is a fraction, with a top and a bottom of any size."""
    if not isinstance(value, tuple) or len(value) != 2:
        return False
    top, bottom = value
    return is_integer(top) and is_integer(bottom) and bottom > 0 and gcd(top, bottom) == 1


def is_any_from_zero(value):
    """Whether it is a fraction from 0 on, with a top and a bottom of any size."""
    return is_any_fraction(value) and value[0] >= 0


def is_ratio(value, most_top, most_bottom):
    """Whether it is a fraction with a top and a bottom that are not too great."""
    return is_any_fraction(value) and -most_top <= value[0] <= most_top and value[1] <= most_bottom


def is_fraction(value):
    """Whether it is a fraction that may be passed."""
    return is_ratio(value, MOST_TOP, MOST_BOTTOM)


def is_share(value):
    """Whether it is a share that may be passed."""
    return is_fraction(value) and 0 <= value[0] <= value[1]


def is_range(value):
    """Whether it is a pair of shares that may be passed, the first one at most the second one."""
    if not isinstance(value, tuple) or len(value) != 2:
        return False
    low, high = value
    return is_share(low) and is_share(high) and low[0] * high[1] <= high[0] * low[1]


def is_price(value):
    """Whether it is the price of a quote."""
    return is_ratio(value, MOST_PRICE_TOP, MOST_PRICE_BOTTOM)


def is_outcome_number(value):
    """Whether there can be so many outcomes."""
    return is_integer_from(value, 2, MOST_OUTCOMES)


def is_payoff(value, outcomes):
    """Whether it is a payoff for so many outcomes."""
    if not isinstance(value, tuple) or len(value) != outcomes:
        return False
    return all([is_integer_from(number, -MOST_NUMBER, MOST_NUMBER) for number in value])


def is_any_payoff(value):
    """Whether it is a payoff for any number of outcomes."""
    return any([is_payoff(value, outcomes) for outcomes in range(2, MOST_OUTCOMES + 1)])


def is_quote(value, outcomes):
    """Whether it is a quote for so many outcomes."""
    if not isinstance(value, tuple) or len(value) != 2:
        return False
    return is_payoff(value[0], outcomes) and is_price(value[1])


def is_lot(value, outcomes):
    """Whether it is a lot of so many outcomes."""
    if not isinstance(value, tuple):
        return False
    least = 0
    for outcome in value:
        if not is_integer_from(outcome, least, outcomes - 1):
            return False
        least = outcome + 1
    return True


def is_full_lot(value, outcomes):
    """Whether it is a lot of so many outcomes that is not empty."""
    return is_lot(value, outcomes) and len(value) > 0


def is_mass(value, outcomes):
    """Whether it is a pair of a lot that is not empty and a share above 0."""
    return is_any_mass(value, outcomes) and is_share(value[1])


def is_any_mass(value, outcomes):
    """Whether it is a pair of a lot that is not empty and a fraction above 0, of any size."""
    if not isinstance(value, tuple) or len(value) != 2:
        return False
    lot, number = value
    return is_full_lot(lot, outcomes) and is_any_fraction(number) and number[0] > 0


def is_name(value):
    """Whether it is a name for a shelf."""
    if not isinstance(value, str) or not 1 <= len(value) <= _MOST_LETTERS:
        return False
    return all([letter in _LETTERS for letter in value])
