"""Chances ever to meet some places of a walk, and plans by which they are least or greatest."""

from softchances.behind import likeliest
from softchances.checks import check_lot
from softchances.ratios import ONE, ZERO, divided, is_below, minus, plus, times, total
from softchances.walks import check_walk, end_of_step, opposites
from softchances.worths import greatest_chance


def least_ever(walk, lot):
    """The tuple of the least chances ever to meet the lot from each place."""
    return ever_by(shunning_plan(walk, lot), lot)


def greatest_ever(walk, lot):
    """The tuple of the greatest chances ever to meet the lot from each place."""
    return ever_by(reaching_plan(walk, lot), lot)


def shunning(walk, lot):
    """The lot of the places from which the least chance ever is 0."""
    check_walk(walk)
    check_lot(lot, len(walk))
    safe = tuple([at for at in range(len(walk)) if at not in lot])
    while True:
        staying = tuple([at for at in safe if greatest_chance(walk[at], safe) == ONE])
        if staying == safe:
            return safe
        safe = staying


def reaching_plan(walk, lot):
    """A plan by which, taken at each step, the chance ever is the greatest one from each place."""
    check_walk(walk)
    check_lot(lot, len(walk))
    return settled(walk, lot, tuple([likeliest(book, lot) for book in walk]), True)


def shunning_plan(walk, lot):
    """A plan by which, taken at each step, the chance ever is the least one from each place."""
    # From all other places each plan leads to the lot or to those that shun
    # it, so where no single step does better, no plan does.
    shunned = shunning(walk, lot)
    return settled(walk, lot, tuple([likeliest(book, shunned) for book in walk]), False)


def settled(walk, lot, plan, is_reaching):
    """The plan, changed place by place as long as a single step does better elsewhere."""
    while True:
        chances = ever_by(plan, lot)
        better = lowered_plan(walk, lot, plan, opposites(chances) if is_reaching else chances)
        if better == plan:
            return plan
        plan = better


def lowered_plan(walk, lot, plan, worths):
    """The plan with another chance wherever one step by it comes to less than the worth of the place."""
    return tuple([chance if at in lot else lowered_chance(walk[at], worths, worths[at], chance)
                  for at, chance in enumerate(plan)])


def lowered_chance(book, worths, now, chance):
    """This chance, or another one of the set by which the worth of a step is less than now."""
    # Only what is truly less counts: a chance that does as well for one step
    # may go round for ever.
    least, other = end_of_step(book, worths)
    return other if is_below(least, now) else chance


def ever_by(plan, lot):
    """The tuple of the chances ever to meet the lot, if the plan is taken at each step."""
    rows = plan
    for at in range(len(plan)):
        if at not in lot:
            leaving = left_row(rows[at], at)
            rows = tuple([leaving if place == at else row_through(row, at, leaving) for place, row in enumerate(rows)])
    return tuple([ONE if at in lot else total([row[place] for place in lot]) for at, row in enumerate(rows)])


def left_row(row, at):
    """Where the walk goes from the place when it leaves it: 0 everywhere if it never does."""
    rest = minus(ONE, row[at])
    return tuple([ZERO if place == at or rest == ZERO else divided(part, rest) for place, part in enumerate(row)])


def row_through(row, at, leaving):
    """The row of another place, when the walk goes on from this one until it leaves it."""
    return tuple([ZERO if place == at else plus(part, times(row[at], beyond))
                  for place, (part, beyond) in enumerate(zip(row, leaving))])
