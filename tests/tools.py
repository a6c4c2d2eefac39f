"""What several tests need: books by chance, answers by hand, wrong values."""

import random
from fractions import Fraction
from itertools import combinations

from softchances.books import Book

RAIN = Book(3, (((1, 0, 0), (1, 3)), ((0, 1, 0), (1, 4)), ((0, 0, 1), (1, 4))))
BAD = Book(2, (((1, 0), (2, 3)), ((0, 1), (2, 3))))
HALF = Book(2, (((1, 0), (1, 3)), ((0, 1), (1, 3))))
MORE = RAIN.with_quote((1, 1, 0), (1, 2))
BAD3 = Book(3, (((1, 0, 0), (2, 3)), ((0, 1, 0), (2, 3))))
SIX = Book(6, ())
BAD6 = Book(6, (((0,) * 6, (1, 1)),))

NO_BOOKS = (None, True, 3, "2:", b"2:", (2, ()), [2, ()], {}, Book, object(), (RAIN,), [RAIN], ValueError())
NO_PRICES = (None, True, 1, "1/2", (), (1,), (1, 2, 3), [1, 2], (2, 4), (0, 2), (-2, 2), (1, 0), (1, -2), (-1, -2),
             (True, 2), (1, True), (False, 1), (None, 1), (1, "2"), ((1, 2), 1), (10 ** 6 + 1, 1), (-10 ** 6 - 1, 1),
             (1, 1001), (10 ** 79, 1), (1, 10 ** 79), RAIN)
ODD_VALUES = (None, True, 0, 7, "", "ab", b"ab", {}, {"a": 1}, set(), object(), RAIN, [], ValueError(), [[[()]]], len)


NO_SHARES = (None, True, False, 0, 1, "1/2", "", b"", (), (1,), (1, 2, 3), [1, 2], (2, 4), (0, 2), (1, 0), (-1, 2),
             (3, 2), (2, 1), (1, -2), (-1, -2), (True, 2), (1, True), (False, 1), (None, 1), (1, "2"), ((1, 2), 1),
             (1, 10 ** 6 + 1), (10 ** 6, 10 ** 6 + 1), (1, 10 ** 79), {}, RAIN)


def no_payoffs(outcomes):
    """Values that are no payoffs for so many outcomes."""
    zeros = (0,) * (outcomes - 1)
    return ODD_VALUES + ((), zeros, zeros + (0, 0), [0] * outcomes, zeros + (True,), zeros + (False,),
                         zeros + (1001,), zeros + (-1001,), (10 ** 70,) + zeros, ("0",) + zeros, (None,) + zeros,
                         ((0, 1),) + zeros, ((),) * outcomes)


def no_lots(outcomes):
    """Values that are no lots of so many outcomes."""
    return ODD_VALUES + ((outcomes,), (-1,), (0, 0), (1, 0), (0, outcomes), (True,), (0, True), (False, 1), [0],
                         (None,), ("0",), ((0,),), (10 ** 70,), tuple(range(outcomes + 1)))


def no_indexes(many):
    """Values that are no index of one of so many."""
    return (many, -1, True, False, None, "0", (0,), [0], 10 ** 70, -10 ** 70, RAIN, object())


def given(error, values):
    """The triples of a wrong value, its error and what this keeps, for errors with `given`."""
    return tuple((value, error, {"given": value}) for value in values)


def indexed(error, rows):
    """The same of pairs of a wrong value and an index, for errors with `index`."""
    return tuple((value, error, {"index": index}) for value, index in rows)


def frac(pair):
    """The number of a pair; the pair must be a fraction in lowest terms."""
    top, bottom = pair
    assert isinstance(pair, tuple) and type(top) is int and type(bottom) is int and bottom > 0, pair
    number = Fraction(top, bottom)
    assert (number.numerator, number.denominator) == (top, bottom), pair
    return number


def fracs(pairs):
    """The numbers of a tuple of pairs."""
    assert isinstance(pairs, tuple), pairs
    return tuple(frac(pair) for pair in pairs)


def pair(number):
    """The pair of a number."""
    number = Fraction(number)
    return number.numerator, number.denominator


def pairs(numbers):
    """The tuple of the pairs of numbers."""
    return tuple(pair(number) for number in numbers)


def worth_by_hand(payoff, chance):
    """The worth of a payoff at a chance, both of plain numbers."""
    return sum((one * two for one, two in zip(payoff, chance)), Fraction(0))


def is_chance(numbers, outcomes):
    """Whether these numbers are a chance."""
    return len(numbers) == outcomes and min(numbers) >= 0 and sum(numbers) == 1


def keeps_by_hand(book, chance):
    """Whether plain numbers are a chance that keeps the book."""
    return is_chance(chance, book.outcomes) and all(
        worth_by_hand(payoff, chance) >= Fraction(*price) for payoff, price in book.quotes)


def row_by_hand(book, sale):
    """The row of a sale of plain numbers."""
    return tuple(sum((number * (payoff[at] - Fraction(*price)) for (payoff, price), number in zip(book.quotes, sale)),
                     Fraction(0)) for at in range(book.outcomes))


def level_row(payoff, least):
    """The payoff less a number, in whole numbers: its worth is 0 where the payoff's is the number."""
    least = Fraction(least)
    return [number * least.denominator - least.numerator for number in payoff]


def level_ray(rows):
    """The only direction, up to its sign, in which rows of whole numbers are all worth 0; None if there are more.

    There is one row less than it has numbers.
    """
    rows, before, at, free = [list(row) for row in rows], 1, 0, None
    for column in range(len(rows) + 1):
        place = next((place for place in range(at, len(rows)) if rows[place][column]), None)
        if place is None:
            if free is not None:
                return None
            free = column
            continue
        rows[at], rows[place] = rows[place], rows[at]
        lead = rows[at]
        for other, row in enumerate(rows):
            if other != at:
                rows[other] = [(lead[column] * one - row[column] * two) // before for one, two in zip(row, lead)]
        before, at = lead[column], at + 1
    ray = [-row[free] for row in rows]
    return ray[:free] + [before] + ray[free:]


def level_chance(rows):
    """The only chance at which rows of whole numbers are all worth 0, None if there is none."""
    ray = level_ray(rows)
    whole = sum(ray) if ray else 0
    if not whole or min(number * whole for number in ray) < 0:
        return None
    return tuple(Fraction(number, whole) for number in ray)


def unit_rows(outcomes):
    """The payoffs that are 1 at one outcome."""
    return [[int(at == place) for at in range(outcomes)] for place in range(outcomes)]


def corners_of_limits(outcomes, limits):
    """All corners, ascending, of the chances with payoffs worth at least as much as told."""
    rows = [level_row(payoff, least) for payoff, least in limits]
    found = set()
    for chosen in combinations(unit_rows(outcomes) + rows, outcomes - 1):
        chance = level_chance(chosen)
        if chance is not None and chance not in found and all(worth_by_hand(row, chance) >= 0 for row in rows):
            found.add(chance)
    return sorted(found)


def corners_by_hand(book):
    """All corners of a book, ascending, none if it is not sound."""
    return corners_of_limits(book.outcomes, [(payoff, Fraction(*price)) for payoff, price in book.quotes])


def behind_by_hand(chance, lot):
    """What a chance of plain numbers becomes behind the news of a lot, None if it has no chance."""
    whole = sum((chance[at] for at in lot), Fraction(0))
    return tuple(number / whole if at in lot else Fraction(0) for at, number in enumerate(chance)) if whole else None


def all_behind(corners, lot):
    """What the corners at which the lot has a chance become behind its news."""
    return [behind for behind in (behind_by_hand(corner, lot) for corner in corners) if behind is not None]


def worths_behind(corners, lot, payoff):
    """The worths of a payoff behind the news of a lot, of all corners at which the lot has a chance."""
    return [worth_by_hand(payoff, behind) for behind in all_behind(corners, lot)]


def price_below(number, bottom):
    """A price that is at most this number, or the least one."""
    return pair(Fraction(max((number * bottom).__floor__(), -10 ** 6), bottom))


def random_chance(rng, outcomes, most=6):
    """A chance of plain numbers."""
    numbers = [rng.randint(0, most) for _ in range(outcomes)]
    numbers[rng.randrange(outcomes)] += 1
    return tuple(Fraction(number, sum(numbers)) for number in numbers)


def random_payoff(rng, outcomes, most=4):
    """A payoff with numbers that are not too great."""
    return tuple(rng.randint(-most, most) for _ in range(outcomes))


def sound_book(rng, outcomes, many, most=4, slack=2):
    """A book that some chance keeps, often just barely."""
    chance, quotes = random_chance(rng, outcomes), []
    for _ in range(many):
        payoff = random_payoff(rng, outcomes, most)
        number = worth_by_hand(payoff, chance) - Fraction(rng.randint(0, slack * 4), 8)
        quotes.append((payoff, price_below(number, rng.choice((1, 2, 3, 4, 12, 60, 999, 1000)))))
    return Book(outcomes, tuple(quotes))


def any_book(rng, outcomes, many, most=4):
    """A book that may be sound or not."""
    quotes = []
    for _ in range(many):
        payoff = random_payoff(rng, outcomes, most)
        quotes.append((payoff, pair(Fraction(rng.randint(-most * 6, most * 2), rng.randint(1, 7)))))
    return Book(outcomes, tuple(quotes))


def point_book(chance):
    """The book that this chance of plain numbers alone keeps."""
    quotes = []
    for at, number in enumerate(chance):
        payoff = tuple(int(place == at) for place in range(len(chance)))
        quotes.append((payoff, pair(number)))
        quotes.append((tuple(-one for one in payoff), pair(-number)))
    return Book(len(chance), tuple(quotes))


def some_books(seed, sound=True):
    """Books of two to six outcomes, with none to thirty-two quotes."""
    rng = random.Random(seed)
    for outcomes in range(2, 7):
        for many in (0, 1, 2, 3, 4, 5, 7, 10, 16, 32):
            yield sound_book(rng, outcomes, many)
            yield sound_book(rng, outcomes, many, most=1000, slack=200)
            if not sound:
                yield any_book(rng, outcomes, many)
        yield point_book(random_chance(rng, outcomes))


def never_books(seed, most_outcomes=5):
    """Sound books by which some outcomes have no chance, or a chance at some corners alone."""
    rng = random.Random(seed)
    for outcomes in range(2, most_outcomes + 1):
        for many in (0, 1, 2, 3):
            book = sound_book(rng, outcomes, many, most=2)
            without = rng.sample(range(outcomes), rng.randint(1, outcomes - 1))
            for at in without:
                payoff = tuple(-int(place == at) for place in range(outcomes))
                if corners_by_hand(book.with_quote(payoff, (0, 1))):
                    book = book.with_quote(payoff, (0, 1))
            yield book


def small_books(seed, most_outcomes=6):
    """Sound books that are small enough to find their corners by hand."""
    rng = random.Random(seed)
    for outcomes, sizes in ((2, (0, 1, 3, 8, 32)), (3, (0, 1, 2, 5, 9, 32)), (4, (0, 1, 2, 4, 6, 9)),
                            (5, (0, 1, 3, 5)), (6, (0, 2, 4))):
        if outcomes > most_outcomes:
            continue
        for many in sizes:
            for slack in (0, 2, 6):
                yield sound_book(rng, outcomes, many, slack=slack)
        if outcomes < 5:
            yield point_book(random_chance(rng, outcomes))


def lots_of(outcomes):
    """All lots, in the order in which bounds stand."""
    return [tuple(at for at in range(outcomes) if place >> at & 1) for place in range(1 << outcomes)]


class Told:
    """Checks that a test case can be derived from beside `unittest.TestCase`."""

    def check_error(self, error, kept, call, *args, **named):
        """The call raises just this error, which keeps just this."""
        with self.assertRaises(error) as caught:
            call(*args, **named)
        self.assertIs(type(caught.exception), error)
        for name, value in kept.items():
            told = getattr(caught.exception, name)
            if isinstance(value, int) or value is None:
                self.assertEqual((type(told), told), (type(value), value))
            else:
                self.assertIs(told, value)

    def check_both_ways(self, expected, call, names, *args):
        """The call returns this by place and by name, and changes nothing."""
        before = repr(args)
        told = call(*args)
        self.assertEqual(told, expected)
        self.assertIs(type(told), type(expected))
        self.assertEqual(call(**dict(zip(names.split(), args))), expected)
        self.assertEqual(repr(args), before)

    def check_error_both_ways(self, error, kept, call, names, *args):
        """The call raises the error by place and by name."""
        self.check_error(error, kept, call, *args)
        self.check_error(error, kept, call, **dict(zip(names.split(), args)))

    def check_first_errors(self, call, names, right, wrong):
        """Each wrong value raises its error; those behind it may be wrong, too.

        For each argument `wrong` has triples of a value, an error and what the error keeps.
        """
        for at, rows in enumerate(wrong):
            behind = {"right": right[at + 1:], "wrong": tuple(others[0][0] for others in wrong[at + 1:])}
            for value, error, kept in rows:
                for rest in behind.values():
                    self.check_error_both_ways(error, kept, call, names, *right[:at], value, *rest)
