"""Whether a value is a certificate for a claim, by sums of the tests alone; and values that are bent a little."""

import re
from fractions import Fraction
from functools import lru_cache
from math import gcd

from tests.tools import behind_by_hand, corners_of_limits, lots_of, worth_by_hand, worths_behind

WHOLE = r"(?:0|-?[1-9][0-9]*)"
QUOTE = rf" {WHOLE}(?:,{WHOLE})*>={WHOLE}/[1-9][0-9]*"
TEXT = re.compile(rf"([2-6]):((?:{QUOTE})*)")
PIECES = {"sound": 1, "loses": 1, "least": 3, "most": 3, "follows": 3, "free": 3, "good": 3, "poor": 3, "widens": 3,
          "steady": 3, "gathers": 1, "scatters": 1, "masses": 1, "behind": 4, "walk": 5}


def whole(value, low, high):
    """Whether it is an integer of these."""
    return type(value) is int and low <= value <= high


def ratio(value):
    """The number of a fraction of any size, None if it is none."""
    if type(value) is not tuple or len(value) != 2 or type(value[0]) is not int or type(value[1]) is not int:
        return None
    if value[1] < 1 or gcd(*value) != 1:
        return None
    return Fraction(*value)


def price(value):
    """The number of a price, None if it is none."""
    number = ratio(value)
    return number if number is not None and abs(value[0]) <= 10 ** 6 and value[1] <= 1000 else None


def sale(value, many):
    """The numbers of a tuple of so many fractions from 0 on, None if it is none."""
    if type(value) is not tuple or len(value) != many:
        return None
    numbers = [ratio(number) for number in value]
    return None if None in numbers or any(number < 0 for number in numbers) else numbers


def mix(value, many):
    """The same, if they add up to 1."""
    numbers = sale(value, many)
    return numbers if numbers is not None and sum(numbers) == 1 else None


def is_payoff(value, outcomes):
    """Whether it is a payoff for so many outcomes."""
    return type(value) is tuple and len(value) == outcomes and all(whole(one, -1000, 1000) for one in value)


def is_lot(value, outcomes):
    """Whether it is a lot of so many outcomes."""
    return (type(value) is tuple and all(whole(one, 0, outcomes - 1) for one in value)
            and list(value) == sorted(set(value)))


@lru_cache(maxsize=None)
def read(text):
    """The number of outcomes and the list of payoffs and plain prices of the text of a book, None if it is none."""
    found = TEXT.fullmatch(text)
    if not found:
        return None
    outcomes, limits = int(found[1]), []
    for word in found[2].split():
        left, right = word.split(">=")
        payoff = tuple(map(int, left.split(",")))
        number = price(tuple(map(int, right.split("/"))))
        if not is_payoff(payoff, outcomes) or number is None:
            return None
        limits.append((payoff, number))
    return (outcomes, limits) if len(limits) <= 32 else None


@lru_cache(maxsize=None)
def corners(text):
    """All corners of the book with this text."""
    return corners_of_limits(*read(text))


def keeper(limits, outcomes, value):
    """The numbers of a chance that keeps the limits, None if it is none."""
    chance = mix(value, outcomes)
    return chance if chance is not None and all(worth_by_hand(one, chance) >= two for one, two in limits) else None


def row(limits, outcomes, numbers):
    """The row of a sale."""
    return [sum(((payoff[at] - least) * number for (payoff, least), number in zip(limits, numbers)), Fraction(0))
            for at in range(outcomes)]


def pair_of(value, many=2):
    """The value, if it is a tuple of so many, otherwise as many times None."""
    return value if type(value) is tuple and len(value) == many else (None,) * many


class Book:
    """What is said in a claim of a book."""

    def __init__(self, text):
        self.outcomes, self.limits = read(text)
        self.text = text

    def keeper(self, value):
        """The numbers of a chance that keeps the book."""
        return keeper(self.limits, self.outcomes, value)

    def row(self, value):
        """The row of a sale, None if it is none."""
        numbers = sale(value, len(self.limits))
        return None if numbers is None else row(self.limits, self.outcomes, numbers)

    def loses(self, value):
        """Whether the sale loses surely."""
        lost = self.row(value)
        return lost is not None and max(lost) < 0

    def holds(self, numbers, value):
        """Whether the numbers, less the row, are from 0 on."""
        lost = self.row(value)
        return lost is not None and all(one >= two for one, two in zip(numbers, lost))

    def sound(self, certificate):
        return self.keeper(certificate) is not None

    def least(self, payoff, number, certificate, sign=1):
        least, (one, two) = ratio(number), pair_of(certificate)
        if not is_payoff(payoff, self.outcomes) or least is None:
            return False
        chance = self.keeper(one)
        turned = [sign * number for number in payoff]
        return (chance is not None and worth_by_hand(payoff, chance) == least
                and self.holds([number - sign * least for number in turned], two))

    def most(self, payoff, number, certificate):
        return self.least(payoff, number, certificate, -1)

    def follows(self, payoff, number, certificate):
        least = price(number)
        if not is_payoff(payoff, self.outcomes) or least is None:
            return False
        return self.holds([one - least for one in payoff], certificate) or self.loses(certificate)

    def free(self, payoff, number, certificate):
        least, chance = price(number), self.keeper(certificate)
        return (is_payoff(payoff, self.outcomes) and least is not None and chance is not None
                and worth_by_hand(payoff, chance) < least)

    def acts(self, acts, act):
        """Whether these are acts and the index of one."""
        return (type(acts) is tuple and 1 <= len(acts) <= 8 and all(is_payoff(one, self.outcomes) for one in acts)
                and whole(act, 0, len(acts) - 1))

    def good(self, acts, act, certificate):
        chance = self.keeper(certificate)
        if not self.acts(acts, act) or chance is None:
            return False
        return worth_by_hand(acts[act], chance) == max(worth_by_hand(one, chance) for one in acts)

    def poor(self, acts, act, certificate):
        if not self.acts(acts, act):
            return False
        one, two, three = pair_of(certificate, 3)
        chance, shares, lost = self.keeper(one), mix(two, len(acts)), self.row(three)
        if chance is None or shares is None or lost is None:
            return False
        mixed = [worth_by_hand([payoff[at] for payoff in acts], shares) for at in range(self.outcomes)]
        return all(one - own - less > 0 for one, own, less in zip(mixed, acts[act], lost))

    def widens(self, question, payoff, certificate, wanted=True):
        if certificate != () or type(certificate) is not tuple or not is_payoff(payoff, self.outcomes):
            return False
        if type(question) is not tuple or len(question) < 2 or not all(is_lot(lot, self.outcomes) and lot
                                                                       for lot in question):
            return False
        if sorted(at for lot in question for at in lot) != list(range(self.outcomes)) or not corners(self.text):
            return False
        now, wide = [worth_by_hand(payoff, corner) for corner in corners(self.text)], True
        for lot in question:
            behind = worths_behind(corners(self.text), lot, payoff)
            wide = wide and (not behind or min(behind) < min(now) and max(behind) > max(now))
        return wide is wanted

    def steady(self, question, payoff, certificate):
        return self.widens(question, payoff, certificate, False)

    def behind(self, lot, payoff, number, certificate):
        least, (one, two) = ratio(number), pair_of(certificate)
        if not is_lot(lot, self.outcomes) or not is_payoff(payoff, self.outcomes) or least is None:
            return False
        chance = self.keeper(one)
        left = chance and behind_by_hand(chance, lot)
        if not left or worth_by_hand(payoff, left) != least:
            return False
        return self.holds([payoff[at] - least if at in lot else 0 for at in range(self.outcomes)], two)


def plain_bounds(value):
    """The plain numbers of bounds with shares of any size, None if they are none."""
    if type(value) is not tuple or len(value) not in (4, 8, 16, 32):
        return None
    numbers = sale(value, len(value))
    if numbers is None or numbers[0] != 0 or numbers[-1] != 1:
        return None
    for place, number in enumerate(numbers):
        if any(place >> at & 1 and numbers[place - (1 << at)] > number for at in range(5)):
            return None
    return numbers


def by_lots(numbers):
    """The bounds by their lots."""
    return dict(zip(map(frozenset, lots_of(len(numbers).bit_length() - 1)), numbers))


def scatters_at(table, one, two):
    """Whether these two lots show that bounds do not gather."""
    one, two = frozenset(one), frozenset(two)
    return table[one] + table[two] > table[one | two] + table[one & two]


def judge_bounds(word, bounds, certificate):
    """Of the three claims about bounds."""
    numbers = plain_bounds(bounds)
    if numbers is None:
        return False
    table, outcomes = by_lots(numbers), len(numbers).bit_length() - 1
    if word == "gathers":
        return type(certificate) is tuple and certificate == () and not any(
            scatters_at(table, one, two) for one in table for two in table)
    if type(certificate) is not tuple:
        return False
    if word == "scatters":
        return (len(certificate) == 2 and all(is_lot(lot, outcomes) for lot in certificate)
                and scatters_at(table, *certificate))
    told = [pair_of(mass) for mass in certificate]
    if not all(is_lot(lot, outcomes) and lot and ratio(number) is not None and ratio(number) > 0
               for lot, number in told):
        return False
    if [lot for lot, _ in told] != sorted({lot for lot, _ in told}):
        return False
    return all(sum((ratio(number) for part, number in told if set(part) <= lot), Fraction(0)) == bound
               for lot, bound in table.items())


def judge_walk(texts, payoff, steps, place, number, certificate):
    """Of the claim about a walk."""
    if type(certificate) is not tuple or certificate or type(texts) is not tuple or not 2 <= len(texts) <= 4:
        return False
    if not all(type(text) is str and read(text) and read(text)[0] == len(texts) and corners(text) for text in texts):
        return False
    if not is_payoff(payoff, len(texts)) or not whole(steps, 0, 8) or not whole(place, 0, len(texts) - 1):
        return False
    worths = [Fraction(one) for one in payoff]
    for _ in range(steps):
        worths = [min(worth_by_hand(worths, corner) for corner in corners(text)) for text in texts]
    return ratio(number) is not None and worths[place] == ratio(number)


def is_certificate(claim, certificate):
    """Whether it is a claim, and a certificate for it."""
    if type(claim) is not tuple or not claim or type(claim[0]) is not str or len(claim) - 1 != PIECES.get(claim[0]):
        return False
    word, pieces = claim[0], claim[1:]
    if word in ("gathers", "scatters", "masses"):
        return judge_bounds(word, *pieces, certificate)
    if word == "walk":
        return judge_walk(*pieces, certificate)
    if type(pieces[0]) is not str or read(pieces[0]) is None:
        return False
    return bool(getattr(Book(pieces[0]), word)(*pieces[1:], certificate))


def bent(value):
    """Values near a value, nested as it is, each changed at one place."""
    if type(value) is int:
        yield from (value + 1, value - 1, -value, 2 * value, str(value), None, [value], (value,), value + 10 ** 30)
        if value in (0, 1):
            yield bool(value)
    elif type(value) is str:
        yield from bent_text(value)
    elif type(value) is tuple:
        yield from (list(value), value[:-1], value + (0,), value + value[-1:], value[::-1], (), None, (value,), "")
        for at, part in enumerate(value):
            for other in bent(part):
                yield value[:at] + (other,) + value[at + 1:]
        if ratio(value) is not None:
            top, bottom = value
            yield from ((2 * top, 2 * bottom), (-top, -bottom), bent_by(value, Fraction(1, 10 ** 40)),
                        bent_by(value, 1))


def bent_by(value, step):
    """The fraction a little greater."""
    number = Fraction(*value) + step
    return number.numerator, number.denominator


def bent_text(text):
    """Texts near a text."""
    yield from (text + " ", " " + text, text + "\n", text.upper() + "x", text[:-1], text[1:], "", text.encode(), [text],
                (text,), None, text.replace(">=", "<=", 1), text.replace(" ", "  ", 1), text.replace("/", "/0", 1),
                text.replace(",", ", ", 1), text.replace(":", "", 1), text.replace(">=", ">=+", 1))
    words = text.split(" ")
    for at in range(1, len(words)):
        yield " ".join(words[:at] + words[at + 1:])
        yield " ".join(words + words[at:at + 1])
        for old, new in (("1", "2"), ("2", "3"), ("/", "/1"), ("0", "1"), (">=", ">=1"), (">=", ">=-"), ("-", "")):
            yield " ".join(words[:at] + [words[at].replace(old, new, 1)] + words[at + 1:])
