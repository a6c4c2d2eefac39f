"""All corners of the set of a book.

A ray is a tuple of whole numbers from 0 on, which stands for the chance that
is in proportion to it. It goes with marks, an integer with a bit for each
condition that it meets just barely: a chance that is 0, a row that is worth 0.
"""

from softchances.books import check_book, scaled_rows
from softchances.checks import check_chance
from softchances.ends import check_listed, check_sound
from softchances.ratios import ascending_by_size, lowest, ratio, times, total


def corners(book):
    """The ascending tuple of all corners."""
    check_book(book)
    check_sound(book)
    check_listed(book)
    rays = corner_rays(scaled_rows(book), book.outcomes)
    return ascending_by_size([chance_of(ray) for ray in rays])


def is_corner(book, chance):
    """Whether the chance is a corner."""
    check_book(book)
    check_chance(chance, book.outcomes)
    return chance in corners(book)


def mean_corner(book):
    """The mean of all corners."""
    listed = corners(book)
    part = (1, len(listed))
    return tuple([times(total([corner[at] for corner in listed]), part) for at in range(book.outcomes)])


def chance_of(ray):
    """The chance in proportion to a ray."""
    whole = sum(ray)
    return tuple([ratio(number, whole) for number in ray])


def corner_rays(rows, outcomes):
    """The rays of all corners of the chances that keep the rows."""
    everything = (1 << outcomes) - 1
    marked = [(unit_ray(at, outcomes), everything - (1 << at)) for at in range(outcomes)]
    for at, row in enumerate(rows):
        marked = cut(marked, row, 1 << (outcomes + at))
    return [ray for ray, _ in marked]


def unit_ray(at, outcomes):
    """The ray that is 1 at one outcome and 0 elsewhere."""
    return tuple([1 if outcome == at else 0 for outcome in range(outcomes)])


def cut(marked, row, mark):
    """The marked rays of what keeps one row more, which has this mark."""
    valued = [(worth_on(row, ray), ray, marks) for ray, marks in marked]
    above = [(value, ray, marks) for value, ray, marks in valued if value > 0]
    below = [(value, ray, marks) for value, ray, marks in valued if value < 0]
    level = [(ray, marks | mark) for value, ray, marks in valued if value == 0]
    between = [(meeting_ray(high, low), high[2] & low[2] | mark)
               for high in above for low in below if is_edge(high[2] & low[2], marked)]
    return [(ray, marks) for _, ray, marks in above] + level + between


def worth_on(row, ray):
    """The worth of a row on a ray."""
    return sum([one * two for one, two in zip(row, ray)])


def meeting_ray(high, low):
    """The ray between two others, one above 0 and one below, on which the row is 0."""
    return tuple(lowest([high[0] * two - low[0] * one for one, two in zip(high[1], low[1])]))


def is_edge(shared, marked):
    """Whether no third ray has all marks that two rays share."""
    many = 0
    for _, marks in marked:
        if marks & shared == shared:
            many += 1
            if many > 2:
                return False
    return True
