"""Which of several acts are safe, beaten, good or open, and which mixes of them beat."""

from softchances.books import check_book, sale_for, scaled_rows
from softchances.checks import check_acts, check_index
from softchances.ends import check_sound, opposite_payoff, sound_end
from softchances.ratios import ZERO, divided, is_below, minus, opposite, over_rest, set_against, total
from softchances.simplex import least_end


def safe_acts(book, acts):
    """The indexes of the acts with the greatest least worth."""
    check_choice(book, acts)
    least = least_worths(book, acts)
    return tuple([at for at, number in enumerate(least) if is_greatest(number, least)])


def unbeaten_acts(book, acts):
    """The indexes of the acts that are not beaten."""
    check_choice(book, acts)
    return tuple([at for at in range(len(acts)) if not is_beaten(book, acts, at)])


def good_acts(book, acts):
    """The indexes of the acts that are good."""
    check_choice(book, acts)
    return tuple([at for at in range(len(acts)) if good_end(book, acts, at)[1] is not None])


def open_acts(book, acts):
    """The indexes of the acts with a greatest worth of at least the least worth of each act."""
    check_choice(book, acts)
    least = least_worths(book, acts)
    greatest = [opposite(number) for number in least_worths(book, [opposite_payoff(payoff) for payoff in acts])]
    return tuple([at for at, number in enumerate(greatest) if is_greatest(number, least)])


def chance_for_act(book, acts, act):
    """A chance of the set at which no act has a greater worth, None if there is none."""
    return act_sides(book, acts, act)[0]


def beating_mix(book, acts, act):
    """A mix that beats the act, None if there is none."""
    return act_sides(book, acts, act)[1]


def best_mix(book, acts):
    """The pair of the greatest least worth of a mix, and a mix with it."""
    check_choice(book, acts)
    # An outcome more stands for a number above all worths of the acts: its
    # chance, set against that of the others, is what the acts can be held to.
    # It must be above 0, so the acts are raised for the while.
    raised = 1 - min([min(payoff) for payoff in acts])
    rows = [row + (0,) for row in scaled_rows(book)]
    rows = rows + [tuple([-number - raised for number in payoff] + [1]) for payoff in acts]
    beyond, _, weights = least_end(rows, (0,) * book.outcomes + (1,))
    mixed = over_rest(weights[len(book.quotes):], beyond)
    return minus(set_against(beyond), (raised, 1)), mixed


def check_choice(book, acts):
    """What is raised for a book and acts."""
    check_book(book)
    check_acts(acts, book.outcomes)
    check_sound(book)


def least_worths(book, acts):
    """The list of the least worths of the acts."""
    return [sound_end(book, payoff)[0] for payoff in acts]


def is_greatest(number, others):
    """Whether none of the others is greater."""
    return not any([is_below(number, other) for other in others])


def is_beaten(book, acts, act):
    """Whether the least worth of some act less this one is above 0."""
    return any([is_below(ZERO, sound_end(book, lead_over(payoff, acts[act]))[0]) for payoff in acts])


def lead_over(payoff, other):
    """The one payoff less the other one."""
    return tuple([one - two for one, two in zip(payoff, other)])


def good_end(book, acts, act):
    """The end that tells whether some chance of the set keeps the act ahead of all others."""
    leads = [lead_over(acts[act], payoff) for payoff in acts]
    return least_end(scaled_rows(book) + leads, (0,) * book.outcomes)


def act_sides(book, acts, act):
    """The triple of a chance for the act, a mix that beats it, and a sale that shows this.

    Either the first one is None, or the other two are. The mix, less the act
    and less the row of the sale, is above 0 at each outcome.
    """
    check_book(book)
    check_acts(acts, book.outcomes)
    check_index(act, len(acts))
    check_sound(book)
    _, chance, weights = good_end(book, acts, act)
    if chance is not None:
        return chance, None, None
    # The weighted rows lose surely; as the book itself is sound, some of
    # the loss is that of the act behind the others.
    many = len(book.quotes)
    whole = total(weights[many:])
    parts = tuple([divided(weight, whole) for weight in weights])
    return None, parts[many:], sale_for(parts, book.quotes)
