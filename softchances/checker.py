"""A checker of certificates for claims: each claim is shown by sums that are looked over here.

Whatever is passed may be any value, so each piece is looked at before use.
"""

from softchances.behind import chance_on, worth_within
from softchances.books import book_with, lacking, row_by
from softchances.bounds import all_numbers, do_scatter, scattered
from softchances.checks import check_few_steps, is_bound_at
from softchances.ends import opposite_payoff
from softchances.errors import InvalidNumber, InvalidPayoff, InvalidQuestion, InvalidWalk, NotSound
from softchances.kinds import is_any_fraction, is_any_from_zero, is_any_mass, is_integer_from, is_lot, is_payoff
from softchances.kinds import is_price
from softchances.limits import MOST_ACTS
from softchances.lots import outcomes_of, place_of
from softchances.masses import masses_from
from softchances.news import widens
from softchances.ratios import ONE, ZERO, is_below, minus, opposite, total, weighed
from softchances.walks import least_after


def is_tuple_of(value, many):
    """Whether it is a tuple of so many elements."""
    return isinstance(value, tuple) and len(value) == many


def is_sale(value, many):
    """Whether it is a tuple of so many fractions from 0 on, of any size."""
    return is_tuple_of(value, many) and all([is_any_from_zero(number) for number in value])


def is_mix(value, many):
    """Whether it is such a tuple, and adds up to 1."""
    return is_sale(value, many) and total(value) == ONE


def is_bounds(value):
    """Whether these are bounds, with shares of any size."""
    if not isinstance(value, tuple) or len(value) not in (4, 8, 16, 32):
        return False
    if not all([is_any_from_zero(share) for share in value]):
        return False
    return all([is_bound_at(value, at) for at in range(len(value))])


def is_kept_by(book, chance):
    """Whether this is a chance, of any size, that keeps the book."""
    return is_mix(chance, book.outcomes) and len(lacking(book, chance)) == 0


def does_lose(book, sale):
    """Whether the sale loses surely."""
    return is_sale(sale, len(book.quotes)) and all([is_below(number, ZERO) for number in row_by(book, sale)])


def does_hold(book, numbers, sale):
    """Whether the numbers, one for each outcome, less the row of the sale are all from 0 on."""
    if not is_sale(sale, len(book.quotes)):
        return False
    return not any([is_below(number, lost) for number, lost in zip(numbers, row_by(book, sale))])


def less(payoff, number):
    """The list of the numbers of a payoff less a fraction."""
    return [minus((whole, 1), number) for whole in payoff]


def shows_sound(text, certificate):
    """Of ("sound", S)."""
    book = book_with(text)
    return book is not None and is_kept_by(book, certificate)


def shows_loss(text, certificate):
    """Of ("loses", S)."""
    book = book_with(text)
    return book is not None and does_lose(book, certificate)


def shows_least(text, payoff, number, certificate):
    """Of ("least", S, G, F)."""
    book = book_with(text)
    if book is None or not is_payoff(payoff, book.outcomes) or not is_any_fraction(number):
        return False
    return shows_end(book, payoff, number, certificate)


def shows_most(text, payoff, number, certificate):
    """Of ("most", S, G, F): the same of both with the other sign."""
    book = book_with(text)
    if book is None or not is_payoff(payoff, book.outcomes) or not is_any_fraction(number):
        return False
    return shows_end(book, opposite_payoff(payoff), opposite(number), certificate)


def shows_end(book, payoff, number, certificate):
    """Whether these are a chance with this worth and a sale that holds it."""
    if not is_tuple_of(certificate, 2):
        return False
    chance, sale = certificate
    if not is_kept_by(book, chance) or weighed(payoff, chance) != number:
        return False
    return does_hold(book, less(payoff, number), sale)


def shows_following(text, payoff, price, certificate):
    """Of ("follows", S, G, F)."""
    book = book_with(text)
    if book is None or not is_payoff(payoff, book.outcomes) or not is_price(price):
        return False
    return does_hold(book, less(payoff, price), certificate) or does_lose(book, certificate)


def shows_freedom(text, payoff, price, certificate):
    """Of ("free", S, G, F)."""
    book = book_with(text)
    if book is None or not is_payoff(payoff, book.outcomes) or not is_price(price):
        return False
    return is_kept_by(book, certificate) and is_below(weighed(payoff, certificate), price)


def has_act(book, acts, act):
    """Whether these are acts for the outcomes of the book, and an index of one."""
    if not isinstance(acts, tuple) or not is_integer_from(len(acts), 1, MOST_ACTS):
        return False
    return all([is_payoff(payoff, book.outcomes) for payoff in acts]) and is_integer_from(act, 0, len(acts) - 1)


def shows_good(text, acts, act, certificate):
    """Of ("good", S, ACTS, I)."""
    book = book_with(text)
    if book is None or not has_act(book, acts, act) or not is_kept_by(book, certificate):
        return False
    best = weighed(acts[act], certificate)
    return not any([is_below(best, weighed(payoff, certificate)) for payoff in acts])


def shows_poor(text, acts, act, certificate):
    """Of ("poor", S, ACTS, I)."""
    book = book_with(text)
    if book is None or not has_act(book, acts, act) or not is_tuple_of(certificate, 3):
        return False
    chance, mix, sale = certificate
    if not is_kept_by(book, chance) or not is_mix(mix, len(acts)) or not is_sale(sale, len(book.quotes)):
        return False
    mixed = [weighed([payoff[at] for payoff in acts], mix) for at in range(book.outcomes)]
    leads = [minus(number, (own, 1)) for number, own in zip(mixed, acts[act])]
    return all([is_below(lost, lead) for lost, lead in zip(row_by(book, sale), leads)])


def shows_widening(text, question, payoff, certificate):
    """Of ("widens", S, QUESTION, G)."""
    return is_tuple_of(certificate, 0) and does_widen(text, question, payoff) is True


def shows_steadiness(text, question, payoff, certificate):
    """Of ("steady", S, QUESTION, G)."""
    return is_tuple_of(certificate, 0) and does_widen(text, question, payoff) is False


def does_widen(text, question, payoff):
    """Whether the question widens the payoff, None where nothing can be told."""
    book = book_with(text)
    if book is None:
        return None
    try:
        return widens(book, question, payoff)
    except (InvalidQuestion, InvalidPayoff, NotSound):
        return None


def shows_gathering(bounds, certificate):
    """Of ("gathers", BOUNDS)."""
    return is_tuple_of(certificate, 0) and is_bounds(bounds) and scattered(bounds) is None


def shows_scattering(bounds, certificate):
    """Of ("scatters", BOUNDS)."""
    if not is_bounds(bounds) or not is_tuple_of(certificate, 2):
        return False
    if not all([is_lot(lot, outcomes_of(bounds)) for lot in certificate]):
        return False
    return do_scatter(bounds, place_of(certificate[0]), place_of(certificate[1]))


def shows_masses(bounds, certificate):
    """Of ("masses", BOUNDS)."""
    if not is_bounds(bounds) or not isinstance(certificate, tuple):
        return False
    # Bounds come of no masses but one, so the sums of the masses need no look.
    told = all([is_any_mass(mass, outcomes_of(bounds)) for mass in certificate])
    return told and certificate == masses_from(all_numbers(bounds))


def shows_behind(text, lot, payoff, number, certificate):
    """Of ("behind", S, LOT, G, F)."""
    book = book_with(text)
    if book is None or not is_lot(lot, book.outcomes) or not is_payoff(payoff, book.outcomes):
        return False
    if not is_any_fraction(number) or not is_tuple_of(certificate, 2):
        return False
    chance, sale = certificate
    if not is_kept_by(book, chance) or chance_on(chance, lot) == ZERO or worth_within(payoff, chance, lot) != number:
        return False
    gaps = [gap if at in lot else ZERO for at, gap in enumerate(less(payoff, number))]
    return does_hold(book, gaps, sale)


def shows_walk(texts, payoff, steps, index, number, certificate):
    """Of ("walk", TEXTS, G, STEPS, I, F)."""
    if not isinstance(texts, tuple) or not is_integer_from(index, 0, len(texts) - 1):
        return False
    if not is_any_fraction(number) or not is_tuple_of(certificate, 0):
        return False
    try:
        check_few_steps(steps)
        return least_after(tuple([book_with(text) for text in texts]), payoff, steps)[index] == number
    except (InvalidWalk, InvalidPayoff, InvalidNumber):
        return False


# How many pieces stand behind the word of each claim, and what looks at them.
_PIECES = {"sound": 1, "loses": 1, "least": 3, "most": 3, "follows": 3, "free": 3, "good": 3, "poor": 3,
           "widens": 3, "steady": 3, "gathers": 1, "scatters": 1, "masses": 1, "behind": 4, "walk": 5}
_SHOWS = {"sound": shows_sound, "loses": shows_loss, "least": shows_least, "most": shows_most,
          "follows": shows_following, "free": shows_freedom, "good": shows_good, "poor": shows_poor,
          "widens": shows_widening, "steady": shows_steadiness, "gathers": shows_gathering,
          "scatters": shows_scattering, "masses": shows_masses, "behind": shows_behind, "walk": shows_walk}


def accepts(claim, certificate):
    """Whether this is a claim for the checker, and a certificate for it."""
    if not isinstance(claim, tuple) or len(claim) == 0 or not isinstance(claim[0], str):
        return False
    word, pieces = claim[0], claim[1:]
    if word not in _SHOWS or len(pieces) != _PIECES[word]:
        return False
    shows = _SHOWS[word]
    return shows(*pieces, certificate)
