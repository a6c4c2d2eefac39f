"""Wishes about the books of a shelf: their forms, and whether they hold."""

from softchances.books import is_sound
from softchances.kinds import is_any_payoff, is_fraction
from softchances.ratios import is_below
from softchances.sources import do_meet
from softchances.tight import is_within
from softchances.worths import greatest_worth, least_worth

_ABOUT_WORTHS = ("least", "most")
_ABOUT_TWO = ("within", "meet", "apart")


def is_wish(value):
    """Whether it is a wish, whatever stands in the place of the names."""
    if not isinstance(value, tuple) or len(value) == 0 or not isinstance(value[0], str):
        return False
    if value[0] in _ABOUT_WORTHS:
        return len(value) == 4 and is_any_payoff(value[2]) and is_fraction(value[3])
    if value[0] in _ABOUT_TWO:
        return len(value) == 3
    return value[0] == "sound" and len(value) == 2


def names_in(wish):
    """The tuple of what stands in the place of the names of a wish."""
    return wish[1:] if wish[0] in _ABOUT_TWO else wish[1:2]


def holds(wish, books):
    """Whether the wish holds, where the dict has the books under their names."""
    names = names_in(wish)
    if not all([isinstance(name, str) and name in books for name in names]):
        return False
    about = [books[name] for name in names]
    if wish[0] in _ABOUT_TWO:
        return holds_for_two(wish[0], about[0], about[1])
    if wish[0] in _ABOUT_WORTHS:
        return holds_for_worth(wish[0], about[0], wish[2], wish[3])
    return is_sound(about[0])


def holds_for_worth(word, book, payoff, number):
    """Whether the least worth is at least the number, or the greatest one at most."""
    if len(payoff) != book.outcomes or not is_sound(book):
        return False
    if word == "least":
        return not is_below(least_worth(book, payoff), number)
    return not is_below(number, greatest_worth(book, payoff))


def holds_for_two(word, book, other):
    """Whether the one set is within the other one, meets it, or is apart from it."""
    if book.outcomes != other.outcomes:
        return False
    if word == "meet":
        return do_meet(book, other)
    if not is_sound(book) or not is_sound(other):
        return False
    return is_within(book, other) if word == "within" else not do_meet(book, other)
