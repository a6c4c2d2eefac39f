"""Bounds for all lots: kept, tight, gathering, and the chances of orders."""

from softchances.books import Book, check_book, scaled_row, scaled_rows
from softchances.checks import check_bounds, check_order, check_payoff
from softchances.ends import check_listed, check_sound
from softchances.errors import InvalidFraction, NotSound
from softchances.kinds import is_price
from softchances.lots import lot_at, lot_payoff, outcomes_of, place_of
from softchances.ratios import ascending_by_size, is_below, minus, opposite, plus, times, total
from softchances.simplex import least_end


def bounds_of(book):
    """The least chances of all lots."""
    check_book(book)
    check_sound(book)
    check_listed(book)
    return least_chances(scaled_rows(book), book.outcomes)


def book_of(bounds):
    """The book with a quote for each lot with a bound above 0 but that of all."""
    check_bounds(bounds)
    for bound in bounds:
        if not is_price(bound):
            raise InvalidFraction(bound)
    return Book(outcomes_of(bounds), tuple(lot_quotes(bounds)))


def is_kept(bounds):
    """Whether some chance keeps the bounds."""
    check_bounds(bounds)
    return are_kept(bound_rows(bounds), outcomes_of(bounds))


def is_tight_bounds(bounds):
    """Whether each bound is the least chance of its lot at chances that keep all."""
    return is_kept(bounds) and tightened(bounds) == bounds


def gathers(bounds):
    """Whether the bounds gather."""
    return scattering(bounds) is None


def scattering(bounds):
    """A pair of lots that show that bounds do not gather, None if they do."""
    check_bounds(bounds)
    return scattered(bounds)


def tightened(bounds):
    """The least chances of all lots at the chances that keep the bounds."""
    check_bounds(bounds)
    return sound_chances(bound_rows(bounds), outcomes_of(bounds))


def numbers_of(bounds):
    """The tuple of the numbers of all lots."""
    check_bounds(bounds)
    return all_numbers(bounds)


def level_worth(bounds, payoff):
    """The level worth of the payoff."""
    check_bounds(bounds)
    check_payoff(payoff, outcomes_of(bounds))
    levels = sorted(set(payoff))
    steps = [times((high - low, 1), bounds[place_from(payoff, high)])
             for low, high in zip(levels, levels[1:])]
    return plus((levels[0], 1), total(steps))


def order_chance(bounds, order):
    """The chance of an order of all outcomes."""
    check_bounds(bounds)
    check_order(order, outcomes_of(bounds))
    return chance_along(bounds, order)


def order_chances(bounds):
    """The ascending tuple of the chances of all orders, each once."""
    check_bounds(bounds)
    listed = {chance_along(bounds, order): True for order in all_orders(outcomes_of(bounds))}
    return ascending_by_size(list(listed))


def least_chances(rows, outcomes):
    """The least chances of all lots at the chances that keep the rows."""
    return tuple([least_end(rows, lot_payoff(lot_at(place), outcomes))[0] for place in range(1 << outcomes)])


def sound_chances(rows, outcomes):
    """These least chances; NotSound if no chance keeps the rows."""
    if not are_kept(rows, outcomes):
        raise NotSound()
    return least_chances(rows, outcomes)


def are_kept(rows, outcomes):
    """Whether some chance keeps the rows."""
    return least_end(rows, (0,) * outcomes)[1] is not None


def lot_quotes(bounds):
    """The list of a quote for each lot with a bound above 0 but that of all."""
    outcomes = outcomes_of(bounds)
    return [(lot_payoff(lot_at(place), outcomes), bounds[place])
            for place in range(len(bounds) - 1) if bounds[place][0] > 0]


def bound_rows(bounds):
    """The rows that a chance keeps just if it keeps the bounds."""
    return [scaled_row(payoff, bound) for payoff, bound in lot_quotes(bounds)]


def scattered(bounds):
    """A pair of lots that show that bounds do not gather, without a look at what is passed."""
    for one in range(len(bounds)):
        for two in range(one):
            if do_scatter(bounds, one, two):
                return lot_at(one), lot_at(two)
    return None


def do_scatter(bounds, one, two):
    """Whether the lots at these two places show that bounds do not gather."""
    return is_below(plus(bounds[one | two], bounds[one & two]), plus(bounds[one], bounds[two]))


def all_numbers(bounds):
    """The tuple of the numbers of all lots, without a look at what is passed."""
    return tuple([number_at(bounds, place) for place in range(len(bounds))])


def number_at(bounds, place):
    """The number of the lot at a place."""
    within = [part for part in range(place + 1) if part & place == part]
    return total([signed(bounds[part], len(lot_at(place - part))) for part in within])


def signed(bound, missing):
    """The bound, with the opposite sign for an odd number of missing outcomes."""
    return opposite(bound) if missing & 1 else bound


def place_from(payoff, level):
    """The place of the lot of the outcomes with at least this number."""
    return place_of([outcome for outcome, number in enumerate(payoff) if number >= level])


def chance_along(bounds, order):
    """The chance of an order, without a look at what is passed."""
    shares = {}
    for at, outcome in enumerate(order):
        before, now = place_of(order[:at]), place_of(order[:at + 1])
        shares[outcome] = minus(bounds[now], bounds[before])
    return tuple([shares[outcome] for outcome in range(len(order))])


def all_orders(outcomes):
    """The list of all orders of the outcomes."""
    orders = [()]
    for _ in range(outcomes):
        orders = [order + (outcome,) for order in orders for outcome in range(outcomes) if outcome not in order]
    return orders
