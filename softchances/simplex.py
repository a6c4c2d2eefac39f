"""The least worth of a payoff at all chances that keep some rows.

A row is a tuple of whole numbers, one for each outcome; a chance keeps it if
its worth there is 0 or more. The simplex method looks for weights of the rows,
from 0 on, such that the payoff less the weighted rows is at least as great a
number as can be at each outcome. This number is the least worth; where there
is no greatest one, no chance keeps the rows.

A line is a list of whole numbers over a bottom that all lines share: one for
the weight of each row, one for the gap above the number at each outcome, and
the amount. The first line is the number itself, each other one tells what a
weight or a gap, the held one of the line, comes to while all that is held by
no line is 0. Nothing that is passed is changed, so properties may use this.
"""

from softchances.ratios import ratio


def least_end(rows, payoff):
    """The triple of the least worth, a chance with it, and the tuple of weights.

    If no chance keeps the rows, the first two are None, and the weighted rows
    add up to less than 0 at each outcome.
    """
    lines, held, shared = first_lines(rows, payoff), first_held(len(rows), payoff), 1
    column = rising_column(lines[0])
    while column is not None:
        at = narrowest_line(lines, held, column)
        if at is None:
            return None, None, losing_weights(lines, held, column, shared, len(rows))
        bottom = lines[at][column]
        lines = pivoted(lines, at, column, shared)
        held = held[:at] + [column] + held[at + 1:]
        shared = bottom
        column = rising_column(lines[0])
    return reached_end(lines, held, shared, len(rows))


def first_lines(rows, payoff):
    """The lines when all weights are 0, and the gap where the payoff is least."""
    floor = least_place(payoff)
    goal = line_at(rows, payoff, floor)
    others = [line_at(rows, payoff, at) for at in range(len(payoff)) if at != floor]
    return [goal] + [[one - two for one, two in zip(line, goal)] for line in others]


def least_place(payoff):
    """The first outcome at which the payoff is least."""
    # No `.index` here: the errors keep something of this name, and what a
    # property runs calls nothing that is kept.
    least = 0
    for at, number in enumerate(payoff):
        if number < payoff[least]:
            least = at
    return least


def line_at(rows, payoff, outcome):
    """The number, the weighted rows and the gap at an outcome make up the payoff."""
    gaps = [1 if at == outcome else 0 for at in range(len(payoff))]
    return [row[outcome] for row in rows] + gaps + [payoff[outcome]]


def first_held(many, payoff):
    """Which column each line holds at first; the first line holds none."""
    floor = least_place(payoff)
    return [-1] + [many + at for at in range(len(payoff)) if at != floor]


def rising_column(goal):
    """The first column that raises the number, None if there is none."""
    # The first one that serves, here and among the lines, is Bland's rule:
    # with it the method comes to an end.
    for column in range(len(goal) - 1):
        if goal[column] < 0:
            return column
    return None


def narrowest_line(lines, held, column):
    """The line that is the first to come down to 0, None if none ever does."""
    best = None
    for at in range(1, len(lines)):
        if lines[at][column] <= 0:
            continue
        if best is None or is_narrower(lines, held, column, at, best):
            best = at
    return best


def is_narrower(lines, held, column, at, best):
    """Whether the one line comes down to 0 ahead of the other one."""
    one, two = lines[at], lines[best]
    left, right = one[-1] * two[column], two[-1] * one[column]
    return left < right or left == right and held[at] < held[best]


def pivoted(lines, at, column, shared):
    """The lines when this one holds the column; its number there becomes what is shared."""
    chosen = lines[at]
    pivot = chosen[column]
    return [chosen if place == at else swept(line, chosen, pivot, line[column], shared)
            for place, line in enumerate(lines)]


def swept(line, chosen, pivot, factor, shared):
    """The line without the column. (What was shared divides it: Edmonds.)"""
    return [(pivot * one - factor * two) // shared for one, two in zip(line, chosen)]


def reached_end(lines, held, shared, many):
    """The end, when nothing can raise the number."""
    goal = lines[0]
    chance = tuple([ratio(gap, shared) for gap in goal[many:-1]])
    amounts = {column: line[-1] for column, line in zip(held, lines)}
    weights = tuple([ratio(amounts.get(at, 0), shared) for at in range(many)])
    return ratio(goal[-1], shared), chance, weights


def losing_weights(lines, held, column, shared, many):
    """Weights, whole ones, that raise the number as far as one likes."""
    rises = {at: -line[column] for at, line in zip(held, lines)}
    return tuple([(shared if at == column else rises.get(at, 0), 1) for at in range(many)])
