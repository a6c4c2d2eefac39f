"""Walks from place to place, each step by some chance of the set of the place."""

from math import lcm

from softchances.books import Book, is_sound
from softchances.checks import check_lot, check_payoff, check_steps
from softchances.ends import opposite_payoff, sound_end
from softchances.errors import InvalidWalk
from softchances.limits import MOST_PLACES
from softchances.lots import lot_payoff
from softchances.ratios import opposite, ratio


def least_after(walk, payoff, steps):
    """The tuple of the least worths of the payoff behind so many steps from each place."""
    check_walk(walk)
    check_payoff(payoff, len(walk))
    check_steps(steps)
    return steps_from(walk, payoff, (), steps)[-1]


def greatest_after(walk, payoff, steps):
    """The tuple of the greatest worths of the payoff behind so many steps from each place."""
    check_walk(walk)
    check_payoff(payoff, len(walk))
    check_steps(steps)
    return opposites(steps_from(walk, opposite_payoff(payoff), (), steps)[-1])


def least_meet(walk, lot, steps):
    """The tuple of the least chances to meet the lot within so many steps from each place."""
    check_walk(walk)
    check_lot(lot, len(walk))
    check_steps(steps)
    return steps_from(walk, lot_payoff(lot, len(walk)), lot, steps)[-1]


def greatest_meet(walk, lot, steps):
    """The tuple of the greatest chances to meet the lot within so many steps from each place."""
    check_walk(walk)
    check_lot(lot, len(walk))
    check_steps(steps)
    met = opposite_payoff(lot_payoff(lot, len(walk)))
    return opposites(steps_from(walk, met, lot, steps)[-1])


def worst_plan(walk, payoff):
    """A plan by which the worth behind one step is the least one from each place."""
    check_walk(walk)
    check_payoff(payoff, len(walk))
    return tuple([sound_end(book, payoff)[1] for book in walk])


def least_row(walk, payoff, steps):
    """The tuple of the least worths from the place 0 behind 0, 1, .. steps."""
    check_walk(walk)
    check_payoff(payoff, len(walk))
    check_steps(steps)
    return tuple([worths[0] for worths in steps_from(walk, payoff, (), steps)])


def check_walk(given):
    """InvalidWalk with the first wrong element, None for the whole value."""
    if not isinstance(given, tuple) or not 2 <= len(given) <= MOST_PLACES:
        raise InvalidWalk(None)
    for at, book in enumerate(given):
        if not isinstance(book, Book) or book.outcomes != len(given) or not is_sound(book):
            raise InvalidWalk(at)


def steps_from(walk, payoff, held, steps):
    """The list of the least worths from each place behind 0, 1, .. steps.

    At the places that are held the walk stays where it is.
    """
    worths = tuple([(number, 1) for number in payoff])
    told = [worths]
    for _ in range(steps):
        worths = tuple([worths[at] if at in held else end_of_step(book, worths)[0] for at, book in enumerate(walk)])
        told.append(worths)
    return told


def end_of_step(book, worths):
    """The pair of the least worth, by the book, of worths that are fractions, and a chance with it."""
    shared = 1
    for _, bottom in worths:
        shared = lcm(shared, bottom)
    (top, bottom), chance, _ = sound_end(book, tuple([number * (shared // under) for number, under in worths]))
    return ratio(top, bottom * shared), chance


def opposites(worths):
    """The tuple of the worths with the other sign."""
    return tuple([opposite(number) for number in worths])
