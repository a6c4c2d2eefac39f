"""Reckoning with fractions, which are pairs (top, bottom) in lowest terms."""

from math import gcd

ZERO = (0, 1)
ONE = (1, 1)


def ratio(top, bottom):
    """The fraction with this top and this bottom, which is above 0."""
    shared = gcd(top, bottom)
    return top // shared, bottom // shared


def lowest(numbers):
    """The list of whole numbers, not all 0, without their common divisor."""
    common = 0
    for number in numbers:
        common = gcd(common, number)
    return [number // common for number in numbers]


def plus(one, two):
    """The sum of two fractions."""
    return ratio(one[0] * two[1] + two[0] * one[1], one[1] * two[1])


def minus(one, two):
    """The first fraction less the second one."""
    return plus(one, opposite(two))


def times(one, two):
    """The product of two fractions."""
    return ratio(one[0] * two[0], one[1] * two[1])


def divided(one, two):
    """The first fraction divided by the second one, which is above 0."""
    return ratio(one[0] * two[1], one[1] * two[0])


def set_against(share):
    """A share below 1, divided by what is left of 1."""
    top, bottom = share
    return ratio(top, bottom - top)


def over_rest(numbers, share):
    """The tuple of the numbers, each divided by what is left of 1."""
    rest = minus(ONE, share)
    return tuple([divided(number, rest) for number in numbers])


def opposite(one):
    """The fraction with the other sign."""
    return -one[0], one[1]


def is_below(one, two):
    """Whether the first fraction is less than the second one."""
    return one[0] * two[1] < two[0] * one[1]


def least_of(parts):
    """The least one of some fractions."""
    least = parts[0]
    for part in parts:
        if is_below(part, least):
            least = part
    return least


def total(parts):
    """The sum of some fractions."""
    so_far = ZERO
    for part in parts:
        so_far = plus(so_far, part)
    return so_far


def weighed(numbers, parts):
    """The sum of whole numbers, each times the fraction at its place."""
    return total([ratio(number * top, bottom) for number, (top, bottom) in zip(numbers, parts)])


def ascending_by_size(rows):
    """The tuple of rows of fractions, each row greater than the one before it."""
    most = max([part[1] for line in rows for part in line], default=1)
    # Unlike fractions with bottoms up to `most` are at least 1 apart when they
    # are taken this many times, so whole parts alone put them in order.
    scale = most * most
    return tuple(sorted(rows, key=lambda row: [top * scale // bottom for top, bottom in row]))
