import random
import unittest
from fractions import Fraction

from softchances.books import Book, is_sound, keeps
from softchances.errors import (InvalidChance, InvalidFraction, InvalidPayoff, NotABook, NotSound, TooGreat, Unlike)
from softchances.losses import culprits
from softchances.sources import (both, do_meet, greatest_but_one, is_left, least_between, least_blend, least_but_one,
                                 widest_lot)
from softchances.worths import greatest_worth, least_worth
from tests.tools import (BAD, BAD3, BAD6, HALF, NO_BOOKS, NO_SHARES, RAIN, SIX, Told, any_book, corners_by_hand,
                         corners_of_limits, fracs, given, indexed, keeps_by_hand, lots_of, no_payoffs, pair, pairs,
                         point_book, random_chance, random_payoff, small_books, sound_book, worth_by_hand)

LAST = Book(3, (((0, 0, 1), (1, 3)),))
BUT_ONE = (least_but_one, greatest_but_one)
SHARES = ((0, 1), (1, 1), (1, 2), (1, 3), (999999, 10 ** 6))
NO_CHANCES = (((), None), (((1, 1),), None), (((1, 2), (1, 4), (1, 4)), None), ([(1, 2), (1, 2)], None), (None, None),
              (((1, 2), (1, 3)), None), (((2, 4), (1, 2)), 0), (((1, 2), (2, 3)), 1), (((1, 2), 1), 1),
              ((True, (0, 1)), 0), (((3, 2), (-1, 2)), 0), (((1, 10 ** 6 + 1), (0, 1)), 0))


def limits_of(*books):
    """What chances must keep that keep all these books."""
    return [(payoff, Fraction(*price)) for book in books for payoff, price in book.quotes]


def two_books(seed, most_outcomes=4):
    """Pairs of sound books for as many outcomes, which often meet and often do not."""
    rng = random.Random(seed)
    yield RAIN, LAST
    yield HALF, HALF
    for outcomes in range(2, most_outcomes + 1):
        for many in (0, 1, 2, 3, 5):
            for slack in (0, 2):
                yield tuple(sound_book(rng, outcomes, rng.choice((many, 2)), slack=slack) for _ in range(2))
        yield tuple(point_book(random_chance(rng, outcomes, 2)) for _ in range(2))


def doubtful_books(seed, sizes=((2, (0, 1, 2, 3, 6, 12)), (3, (0, 1, 2, 3, 5, 8)), (4, (1, 2, 3, 5)), (5, (2, 3)))):
    """Books that are sound, or with a quote that is wrong, or with more of them."""
    rng = random.Random(seed)
    yield from (BAD, BAD3, HALF, RAIN, Book(2, ()), Book.read("2: 1,0>=2/1"), Book.read("2: 1,0>=2/1 0,1>=2/1"))
    for outcomes, many in sizes:
        for size in many:
            yield any_book(rng, outcomes, size)
            book = sound_book(rng, outcomes, size)
            yield book
            for _ in range(2):
                book = book.with_quote(random_payoff(rng, outcomes), pair(Fraction(rng.randint(-6, 30), 6)))
                yield book


def left_by_hand(book):
    """All corners of the books without one quote each."""
    if not book.quotes:
        return corners_by_hand(book)
    return [corner for at in range(len(book.quotes)) for corner in corners_by_hand(book.without(at))]


class Both(Told, unittest.TestCase):
    def test_quotes(self):
        for one, two in two_books(321):
            self.check_both_ways(Book(one.outcomes, one.quotes + two.quotes), both, "book other", one, two)
        self.check_both_ways(Book.read("2: 1,0>=2/3 0,1>=2/3 1,0>=1/3 0,1>=1/3"), both, "book other", BAD, HALF)
        self.assertEqual(str(both(RAIN, LAST)), str(RAIN) + " 0,0,1>=1/3")
        self.assertEqual(str(both(LAST, RAIN)), "3: 0,0,1>=1/3" + str(RAIN)[2:])
        self.assertEqual(both(SIX, SIX), SIX)

    def test_set_of_both(self):
        rng = random.Random(322)
        for one, two in two_books(322):
            corners = corners_of_limits(one.outcomes, limits_of(one, two))
            self.assertIs(is_sound(both(one, two)), bool(corners))
            self.check_both_ways(bool(corners), do_meet, "book other", one, two)
            self.assertIs(do_meet(two, one), bool(corners))
            if corners:
                payoff = random_payoff(rng, one.outcomes)
                self.assertEqual(greatest_worth(both(one, two), payoff),
                                 pair(max(worth_by_hand(payoff, corner) for corner in corners)))

    def test_books_that_are_not_sound(self):
        for one, two in ((BAD, HALF), (HALF, BAD), (BAD, BAD), (BAD, Book(2, ())), (BAD6, SIX), (SIX, BAD6)):
            self.check_both_ways(False, do_meet, "book other", one, two)
            self.assertFalse(is_sound(both(one, two)))

    def test_most_quotes(self):
        rng = random.Random(323)
        for one, two in ((16, 16), (32, 0), (0, 32), (1, 31), (32, 1), (1, 32), (32, 32), (20, 13)):
            books = sound_book(rng, 4, one), sound_book(rng, 4, two)
            if one + two <= 32:
                self.assertEqual(both(*books).quotes, books[0].quotes + books[1].quotes)
            else:
                self.check_error_both_ways(TooGreat, {"given": one + two}, both, "book other", *books)
            # Whether they meet is told for any number of quotes.
            limits = limits_of(*books)
            self.assertIs(do_meet(*books), bool(corners_of_limits(4, limits)))

    def test_many_quotes_meet_or_not(self):
        full = Book(2, (((1, 0), (1, 2)),) * 32)
        self.check_both_ways(True, do_meet, "book other", full, Book(2, (((0, 1), (1, 2)),) * 32))
        self.check_both_ways(False, do_meet, "book other", full, Book(2, (((0, 1), (501, 1000)),) * 32))


class Between(Told, unittest.TestCase):
    def test_by_corners(self):
        rng = random.Random(324)
        for one, two in two_books(324):
            ones, twos = corners_by_hand(one), corners_by_hand(two)
            payoff = random_payoff(rng, one.outcomes, rng.choice((4, 1000)))
            least = [min(worth_by_hand(payoff, corner) for corner in some) for some in (ones, twos)]
            self.check_both_ways(pair(min(least)), least_between, "book other payoff", one, two, payoff)
            for share in SHARES:
                part = Fraction(*share)
                mixes = [[(1 - part) * p + part * q for p, q in zip(corner, other)]
                         for corner in ones for other in twos]
                blended = min(worth_by_hand(payoff, mix) for mix in mixes)
                self.check_both_ways(pair(blended), least_blend, "book other share payoff", one, two, share, payoff)
                self.assertGreaterEqual(blended, min(least))
            self.assertEqual(least_blend(one, two, (0, 1), payoff), least_worth(one, payoff))
            self.assertEqual(least_blend(one, two, (1, 1), payoff), least_worth(two, payoff))
            self.assertEqual(least_blend(two, one, (1, 3), payoff), least_blend(one, two, (2, 3), payoff))

    def test_by_hand(self):
        one, two = Book.read("2: 1,0>=3/4"), Book.read("2: 0,1>=3/4")
        self.check_both_ways((0, 1), least_between, "book other payoff", one, two, (1, 0))
        self.check_both_ways((9, 16), least_blend, "book other share payoff", one, two, (1, 4), (1, 0))
        self.check_both_ways((1, 6), least_blend, "book other share payoff", RAIN, LAST, (1, 2), (1, 0, 0))
        self.check_both_ways((3, 8), least_blend, "book other share payoff", one, two, (1, 2), (1, 0))

    def test_large_books(self):
        rng = random.Random(325)
        for outcomes in (2, 4, 6):
            one, two = (sound_book(rng, outcomes, 32, 1000, 200) for _ in range(2))
            payoff = random_payoff(rng, outcomes, 1000)
            low, high = fracs((least_worth(one, payoff), least_worth(two, payoff)))
            self.assertEqual(least_between(one, two, payoff), pair(min(low, high)))
            self.assertEqual(least_blend(one, two, (1, 7), payoff), pair((6 * low + high) / 7))


class ButOne(Told, unittest.TestCase):
    def test_by_corners(self):
        rng, kinds = random.Random(326), set()
        for book in doubtful_books(326):
            payoff, left = random_payoff(rng, book.outcomes, rng.choice((4, 1000))), left_by_hand(book)
            kinds.add((is_sound(book), bool(left)))
            if left:
                worths = [worth_by_hand(payoff, corner) for corner in left]
                self.check_both_ways(pair(min(worths)), least_but_one, "book payoff", book, payoff)
                self.check_both_ways(pair(max(worths)), greatest_but_one, "book payoff", book, payoff)
            else:
                for call in BUT_ONE:
                    self.check_error_both_ways(NotSound, {}, call, "book payoff", book, payoff)
        self.assertEqual(kinds, {(True, True), (False, True), (False, False)})

    def test_few_quotes(self):
        for book in (Book(3, ()), LAST, Book.read("3: 1,1,1>=5/1")):
            self.check_both_ways((-2, 1), least_but_one, "book payoff", book, (5, -2, 0))
            self.check_both_ways((5, 1), greatest_but_one, "book payoff", book, (5, -2, 0))
        self.check_both_ways((0, 1), least_but_one, "book payoff", BAD, (1, 0))
        self.check_both_ways((1, 1), greatest_but_one, "book payoff", BAD, (1, 0))
        self.check_both_ways((0, 1), least_but_one, "book payoff", RAIN, (1, 0, 0))
        self.check_both_ways((3, 4), greatest_but_one, "book payoff", RAIN, (1, 0, 0))

    def test_ends_of_the_books_without_one(self):
        rng = random.Random(327)
        for book in doubtful_books(327):
            payoff = random_payoff(rng, book.outcomes)
            parts = [book.without(at) for at in range(len(book.quotes))] or [book]
            sound = [part for part in parts if is_sound(part)]
            if sound:
                self.assertEqual(least_but_one(book, payoff), min((least_worth(part, payoff) for part in sound),
                                                                  key=lambda number: Fraction(*number)))
                self.assertEqual(greatest_but_one(book, payoff), max((greatest_worth(part, payoff) for part in sound),
                                                                     key=lambda number: Fraction(*number)))

    def test_left_by_hand(self):
        rng, counts = random.Random(328), {True: 0, False: 0}
        for book in doubtful_books(328):
            chances = [random_chance(rng, book.outcomes) for _ in range(5)] + left_by_hand(book)[:4]
            for chance in chances:
                if max(number.denominator for number in chance) > 10 ** 6:
                    continue
                lost = sum(worth_by_hand(payoff, chance) < Fraction(*price) for payoff, price in book.quotes)
                counts[lost < 2] += 1
                self.check_both_ways(lost < 2, is_left, "book chance", book, pairs(chance))
                if keeps_by_hand(book, chance):
                    self.assertTrue(is_left(book, pairs(chance)) and keeps(book, pairs(chance)))
        self.assertGreater(min(counts.values()), 30)

    def test_left_at_the_edge(self):
        self.check_both_ways(True, is_left, "book chance", RAIN, ((0, 1), (1, 2), (1, 2)))
        self.check_both_ways(False, is_left, "book chance", RAIN, ((1, 1), (0, 1), (0, 1)))
        self.check_both_ways(True, is_left, "book chance", Book(2, ()), ((1, 1), (0, 1)))
        twice = Book.read("2: 1,0>=1/2 1,0>=1/2")
        self.check_both_ways(True, is_left, "book chance", twice, ((1, 2), (1, 2)))
        self.check_both_ways(False, is_left, "book chance", twice, ((1, 3), (2, 3)))

    def test_large_books(self):
        rng = random.Random(329)
        for outcomes in (2, 4, 6):
            book, payoff = sound_book(rng, outcomes, 32, 1000, 200), random_payoff(rng, outcomes, 1000)
            low, high = fracs((least_but_one(book, payoff), greatest_but_one(book, payoff)))
            least, greatest = fracs((least_worth(book, payoff), greatest_worth(book, payoff)))
            self.assertTrue(low <= least <= greatest <= high)


class BesideCulprits(Told, unittest.TestCase):
    def test_what_is_left(self):
        found = 0
        for book in doubtful_books(330):
            if is_sound(book):
                self.assertEqual(culprits(book), ())
                continue
            # Of a book that is not sound, chances are left just if some quote is a culprit.
            wrong = culprits(book)
            for call, end, choose in ((least_but_one, least_worth, min), (greatest_but_one, greatest_worth, max)):
                payoff = tuple(range(book.outcomes))
                if wrong:
                    ends = [Fraction(*end(book.without(at), payoff)) for at in wrong]
                    self.assertEqual(call(book, payoff), pair(choose(ends)))
                    found += 1
                else:
                    self.check_error(NotSound, {}, call, book, payoff)
            for at in wrong:
                for corner in corners_by_hand(book.without(at))[:3]:
                    if max(number.denominator for number in corner) <= 10 ** 6:
                        self.assertTrue(is_left(book, pairs(corner)))
        self.assertGreater(found, 20)


class Widest(Told, unittest.TestCase):
    def test_by_corners(self):
        rng = random.Random(331)
        books = list(small_books(331, most_outcomes=4)) + [sound_book(rng, 5, many) for many in (0, 1, 2, 3)]
        for book in books:
            corners, widths = corners_by_hand(book), []
            for lot in lots_of(book.outcomes):
                chances = [sum(corner[at] for at in lot) for corner in corners]
                widths.append(max(chances) - min(chances))
            self.check_both_ways(lots_of(book.outcomes)[widths.index(max(widths))], widest_lot, "book", book)

    def test_by_hand(self):
        self.check_both_ways((0,), widest_lot, "book", RAIN)
        self.check_both_ways((0,), widest_lot, "book", Book(5, ()))
        self.check_both_ways((1,), widest_lot, "book", Book.read("3: 1,0,0>=1/4 -1,0,0>=-1/4"))
        self.check_both_ways((0, 1), widest_lot, "book", Book.read("4: 1,-1,0,0>=0/1 -1,1,0,0>=0/1 0,0,1,-1>=0/1 "
                                                                   "0,0,-1,1>=0/1"))

    def test_one_chance_alone(self):
        rng = random.Random(332)
        for outcomes in (2, 3, 4, 5):
            self.check_both_ways((), widest_lot, "book", point_book(random_chance(rng, outcomes)))


class Errors(Told, unittest.TestCase):
    def test_two_books(self):
        no_books, no_others = given(NotABook, NO_BOOKS), given(NotABook, NO_BOOKS)
        for call in (both, do_meet):
            self.check_first_errors(call, "book other", (HALF, BAD), (no_books, no_others))
            for one, two in ((HALF, RAIN), (SIX, HALF), (BAD, BAD3), (Book(2, ()), BAD6)):
                self.check_error_both_ways(Unlike, {}, call, "book other", one, two)
        full = Book(2, (((1, 0), (1, 2)),) * 32)
        # Unlike comes ahead of TooGreat.
        self.check_error_both_ways(Unlike, {}, both, "book other", full, RAIN)
        self.check_error_both_ways(TooGreat, {"given": 33}, both, "book other", full, Book(2, full.quotes[:1]))
        self.check_error_both_ways(TooGreat, {"given": 34}, both, "book other", full, BAD)

    def test_between(self):
        wrong = given(NotABook, NO_BOOKS), given(NotABook, NO_BOOKS), given(InvalidPayoff, no_payoffs(2))
        self.check_first_errors(least_between, "book other payoff", (HALF, HALF, (1, 2)), wrong)
        for one, two, error in ((HALF, RAIN, Unlike), (BAD, RAIN, Unlike), (BAD, BAD3, Unlike), (HALF, BAD, NotSound),
                                (BAD, HALF, NotSound), (BAD, BAD, NotSound)):
            self.check_error_both_ways(error, {}, least_between, "book other payoff", one, two, (1, 2))
            self.check_error_both_ways(InvalidPayoff, {"given": (1, 2, 3)}, least_between, "book other payoff", one,
                                       two, (1, 2, 3))
            for share in SHARES:
                self.check_error_both_ways(error, {}, least_blend, "book other share payoff", one, two, share, (1, 2))

    def test_blend(self):
        wrong = (given(NotABook, NO_BOOKS), given(NotABook, NO_BOOKS), given(InvalidFraction, NO_SHARES),
                 given(InvalidPayoff, no_payoffs(2)))
        self.check_first_errors(least_blend, "book other share payoff", (HALF, HALF, (1, 2), (1, 2)), wrong)
        self.check_error(InvalidFraction, {"given": (3, 2)}, least_blend, BAD, RAIN, (3, 2), (1, 2))
        self.check_error(InvalidPayoff, {"given": (1, 2, 3)}, least_blend, HALF, RAIN, (1, 2), (1, 2, 3))

    def test_but_one(self):
        wrong = given(NotABook, NO_BOOKS), given(InvalidPayoff, no_payoffs(2))
        nothing = Book.read("2: 1,0>=2/1 0,1>=2/1")
        for call in BUT_ONE:
            self.check_first_errors(call, "book payoff", (HALF, (1, 2)), wrong)
            self.check_error_both_ways(NotSound, {}, call, "book payoff", nothing, (1000, -1000))
            self.check_error_both_ways(InvalidPayoff, {"given": (1,)}, call, "book payoff", nothing, (1,))

    def test_left(self):
        wrong = given(NotABook, NO_BOOKS), indexed(InvalidChance, NO_CHANCES)
        for book in (HALF, BAD, Book(2, ())):
            self.check_first_errors(is_left, "book chance", (book, ((1, 2), (1, 2))), wrong)

    def test_widest(self):
        for value in NO_BOOKS:
            self.check_error_both_ways(NotABook, {"given": value}, widest_lot, "book", value)
        for book in (BAD, BAD3, BAD6):
            self.check_error_both_ways(NotSound, {}, widest_lot, "book", book)
        self.check_error_both_ways(TooGreat, {"given": 6}, widest_lot, "book", SIX)


if __name__ == "__main__":
    unittest.main()
