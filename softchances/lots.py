"""Lots of outcomes, and the places at which bounds stand for them."""


def lot_at(place):
    """The lot that has the outcome i just if 2 ** i is in the sum `place`."""
    return tuple([at for at in range(place.bit_length()) if place >> at & 1])


def place_of(lot):
    """The place at which the bound of a lot stands."""
    return sum([1 << outcome for outcome in lot])


def lot_payoff(lot, outcomes):
    """The payoff that is 1 on the lot and 0 elsewhere."""
    return tuple([1 if outcome in lot else 0 for outcome in range(outcomes)])


def outcomes_of(bounds):
    """For how many outcomes the bounds are."""
    return len(bounds).bit_length() - 1
