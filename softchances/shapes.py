"""The least chances of all lots for sets of chances of some common shapes."""

from softchances.books import scaled_row
from softchances.bounds import sound_chances
from softchances.checks import check_short_chance, check_ranges, check_share
from softchances.ends import opposite_payoff
from softchances.limits import MOST_LISTED
from softchances.lots import lot_at, lot_payoff
from softchances.ratios import ONE, ZERO, is_below, minus, opposite, times, total


def range_bounds(ranges):
    """The least chances where each outcome's chance is within its pair."""
    check_ranges(ranges, 2, MOST_LISTED)
    singles = [(at,) for at in range(len(ranges))]
    return bounds_within(singles, ranges, len(ranges))


def beginning_bounds(beginnings):
    """The least chances where the chances of the first outcomes are within their pairs."""
    check_ranges(beginnings, 1, MOST_LISTED - 1)
    firsts = [tuple(range(at + 1)) for at in range(len(beginnings))]
    return bounds_within(firsts, beginnings, len(beginnings) + 1)


def stirred_bounds(chance, share):
    """The least chances of the stirred chances."""
    check_short_chance(chance)
    check_share(share)
    kept = minus(ONE, share)
    return tuple([times(number, kept) for number in small_chances(chance)] + [ONE])


def near_bounds(chance, share):
    """The least chances of the near chances."""
    check_short_chance(chance)
    check_share(share)
    # Whatever a lot lacks may be given to an outcome outside of it, so
    # each lot but that of all can come down by the whole share.
    return tuple([lowered(number, share) for number in small_chances(chance)] + [ONE])


def bounds_within(lots, pairs, outcomes):
    """The least chances where the chance of each of these lots is within its pair."""
    rows = []
    for lot, (low, high) in zip(lots, pairs):
        payoff = lot_payoff(lot, outcomes)
        rows.append(scaled_row(payoff, low))
        rows.append(scaled_row(opposite_payoff(payoff), opposite(high)))
    return sound_chances(rows, outcomes)


def small_chances(chance):
    """The list of the chances of all lots but that of all."""
    everything = (1 << len(chance)) - 1
    return [total([chance[outcome] for outcome in lot_at(place)]) for place in range(everything)]


def lowered(number, share):
    """The number less the share, 0 where this is below 0."""
    return ZERO if is_below(number, share) else minus(number, share)
