"""Masses for lots: what is believed by them, put together and weakened."""

from softchances.bounds import numbers_of
from softchances.checks import check_few_outcomes, check_full_lot, check_lot, check_masses, check_payoff
from softchances.checks import check_share
from softchances.errors import TotalClash
from softchances.lots import lot_at
from softchances.ratios import ONE, ZERO, divided, minus, plus, times, total, weighed


def masses_of(bounds):
    """The masses of which the bounds come, None if they do not."""
    return masses_from(numbers_of(bounds))


def beliefs(outcomes, masses):
    """The bounds of all beliefs."""
    check_held(outcomes, masses)
    return tuple([believed(masses, lot_at(place)) for place in range(1 << outcomes)])


def belief(outcomes, masses, lot):
    """The sum of the numbers of the lots within the lot."""
    check_held(outcomes, masses)
    check_lot(lot, outcomes)
    return believed(masses, lot)


def room(outcomes, masses, lot):
    """The sum of the numbers of the lots that have some outcome of the lot."""
    check_held(outcomes, masses)
    check_lot(lot, outcomes)
    return total([number for part, number in masses if len(in_both(part, lot)) > 0])


def sure_worth(outcomes, masses, payoff):
    """The sum over the masses of the number times the least of the payoff on the lot."""
    check_held(outcomes, masses)
    check_payoff(payoff, outcomes)
    least = [min([payoff[outcome] for outcome in part]) for part, _ in masses]
    return weighed(least, [number for _, number in masses])


def clash(outcomes, masses, others):
    """The sum of the products for lots that have nothing in common."""
    check_held(outcomes, masses)
    check_masses(others, outcomes)
    return products(masses, others).get((), ZERO)


def put_together(outcomes, masses, others):
    """The masses of both, put together."""
    check_held(outcomes, masses)
    check_masses(others, outcomes)
    return joined(masses, others)


def weakened(outcomes, masses, share):
    """The masses, weakened by the share."""
    check_held(outcomes, masses)
    check_share(share)
    kept, everything = minus(ONE, share), tuple(range(outcomes))
    numbers = {lot: times(number, kept) for lot, number in masses}
    numbers[everything] = plus(numbers.get(everything, ZERO), share)
    return as_masses(numbers)


def masses_behind(outcomes, masses, lot):
    """The masses put together with those that have 1 on the lot."""
    check_held(outcomes, masses)
    check_full_lot(lot, outcomes)
    return joined(masses, ((lot, ONE),))


def check_held(outcomes, masses):
    """What is raised for a number of outcomes and masses for so many."""
    check_few_outcomes(outcomes)
    check_masses(masses, outcomes)


def masses_from(numbers):
    """The masses that the numbers of all lots tell, None if one is below 0."""
    if any([top < 0 for top, _ in numbers]):
        return None
    return as_masses({lot_at(place): number for place, number in enumerate(numbers)})


def as_masses(numbers):
    """The masses that a dict tells, without the empty lot and what has the number 0."""
    return tuple(sorted([(lot, number) for lot, number in numbers.items() if len(lot) > 0 and number[0] > 0]))


def believed(masses, lot):
    """The belief of the lot, without a look at what is passed."""
    return total([number for part, number in masses if in_both(part, lot) == part])


def in_both(one, two):
    """The lot of what is in both lots."""
    return tuple([outcome for outcome in one if outcome in two])


def products(masses, others):
    """A dict of the lots of what is in both lots of a pair, with the sums of the products."""
    sums = {}
    for one, number in masses:
        for two, other in others:
            lot = in_both(one, two)
            sums[lot] = plus(sums.get(lot, ZERO), times(number, other))
    return sums


def joined(masses, others):
    """Both masses put together; TotalClash if the clash is 1."""
    sums = products(masses, others)
    left = minus(ONE, sums.get((), ZERO))
    if left == ZERO:
        raise TotalClash()
    return as_masses({lot: divided(number, left) for lot, number in sums.items()})
