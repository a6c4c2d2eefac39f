"""Claims for the checker, each with a certificate for it."""

from softchances.acts import act_sides
from softchances.books import chance_for, check_book, losing_sale, sale_for
from softchances.bounds import scattering
from softchances.checks import check_few_steps, check_index, check_payoff, check_price
from softchances.masses import masses_of
from softchances.news import checked_behind, widens
from softchances.ratios import divided, is_below, opposite
from softchances.walks import check_walk, least_after
from softchances.worths import checked_end, checked_top


def certify_book(book):
    """Whether the book is sound."""
    chance = chance_for(book)
    if chance is None:
        return ("loses", str(book)), losing_sale(book)
    return ("sound", str(book)), chance


def certify_least(book, payoff):
    """What the least worth of the payoff is."""
    least, chance, weights = checked_end(book, payoff)
    return ("least", str(book), payoff, least), (chance, sale_for(weights, book.quotes))


def certify_most(book, payoff):
    """What the greatest worth of the payoff is."""
    least, chance, weights = checked_top(book, payoff)
    return ("most", str(book), payoff, opposite(least)), (chance, sale_for(weights, book.quotes))


def certify_quote(book, payoff, price):
    """Whether each chance that keeps the book keeps the quote."""
    check_book(book)
    check_payoff(payoff, book.outcomes)
    check_price(price)
    follows, free = ("follows", str(book), payoff, price), ("free", str(book), payoff, price)
    if chance_for(book) is None:
        return follows, losing_sale(book)
    least, chance, weights = checked_end(book, payoff)
    if is_below(least, price):
        return free, chance
    return follows, sale_for(weights, book.quotes)


def certify_act(book, acts, act):
    """Whether the act is good."""
    chance, mix, sale = act_sides(book, acts, act)
    if chance is None:
        return ("poor", str(book), acts, act), (chance_for(book), mix, sale)
    return ("good", str(book), acts, act), chance


def certify_question(book, question, payoff):
    """Whether the question widens the payoff."""
    word = "widens" if widens(book, question, payoff) else "steady"
    return (word, str(book), question, payoff), ()


def certify_bounds(bounds):
    """Whether the bounds gather."""
    pair = scattering(bounds)
    return (("gathers", bounds), ()) if pair is None else (("scatters", bounds), pair)


def certify_masses(bounds):
    """That the bounds come of masses, None if they do not."""
    masses = masses_of(bounds)
    return None if masses is None else (("masses", bounds), masses)


def certify_behind(book, lot, payoff):
    """What the least worth of the payoff behind the news of the lot is."""
    worth, chance, weights = checked_behind(book, lot, payoff)
    # The weights are for the bottom of the worth times as much.
    whole = (worth[1], 1)
    sale = sale_for([divided(weight, whole) for weight in weights], book.quotes)
    return ("behind", str(book), lot, payoff, worth), (chance, sale)


def certify_walk(walk, payoff, steps, index):
    """What the least worth of the payoff behind so many steps from a place is."""
    check_walk(walk)
    check_payoff(payoff, len(walk))
    check_few_steps(steps)
    check_index(index, len(walk))
    texts = tuple([str(book) for book in walk])
    return ("walk", texts, payoff, steps, index, least_after(walk, payoff, steps)[index]), ()
