"""Texts of books, payoffs and fractions, and what they tell."""

from softchances.kinds import is_outcome_number, is_quote
from softchances.limits import MOST_QUOTES


def fraction_text(fraction):
    """The fraction as in 1/3 or 2/1."""
    top, bottom = fraction
    return f"{top}/{bottom}"


def payoff_text(payoff):
    """The numbers with commas between."""
    return ",".join([str(number) for number in payoff])


def book_words(outcomes, quotes):
    """The list of the words between the spaces of the text of a book."""
    quoted = [f"{payoff_text(payoff)}>={fraction_text(price)}" for payoff, price in quotes]
    return [f"{outcomes}:"] + quoted


def integer_in(text):
    """The integer with this text, None if it is the text of none."""
    digits = text[1:] if text.startswith("-") else text
    if not digits or not all([digit in "0123456789" for digit in digits]):
        return None
    number = int(text)
    return number if str(number) == text else None


def numbers_in(text):
    """The tuple of what stands between commas, None for what is no integer."""
    return tuple([integer_in(word) for word in text.split(",")])


def fraction_in(text):
    """The pair of what stands before and behind the stroke, None for what is no integer."""
    top, _, bottom = text.partition("/")
    return integer_in(top), integer_in(bottom)


def quote_in(word):
    """The pair that a word tells: a quote, or something else if it is the text of none."""
    payoff, _, price = word.partition(">=")
    return numbers_in(payoff), fraction_in(price)


def book_parts_in(text):
    """The pair of outcomes and quotes of a text, None if it is the text of no book."""
    parts = text.split(" ")
    head, words = parts[0], parts[1:]
    if not head.endswith(":") or len(words) > MOST_QUOTES:
        return None
    outcomes = integer_in(head[:-1])
    if not is_outcome_number(outcomes):
        return None
    quotes = tuple([quote_in(word) for word in words])
    if not all([is_quote(quote, outcomes) for quote in quotes]):
        return None
    return outcomes, quotes
