import random
import unittest
from fractions import Fraction

from softchances.books import Book, is_sound
from softchances.desks import Desk
from softchances.errors import (InvalidFraction, InvalidIndex, InvalidLot, InvalidPayoff, NotABook, NotSound,
                                NothingToUndo, TooGreat)
from softchances.worths import greatest_worth, least_worth
from tests.tools import (BAD, BAD3, HALF, MORE, NO_BOOKS, NO_PRICES, RAIN, SIX, Told, any_book, corners_by_hand, given,
                         keeps_by_hand, lots_of, no_indexes, no_lots, no_payoffs, pair, random_payoff, sound_book,
                         worth_by_hand)

FULL = Book(2, (((1, 0), (1, 2)),) * 32)
STOPS = (ValueError, TypeError, KeyError, NotSound, NothingToUndo, KeyboardInterrupt, SystemExit, GeneratorExit)


class Stop(BaseException):
    """An error of nobody's."""


def tightened_by_hand(book):
    """The book with the least worths of its payoffs for prices; None if it is not sound or a price would be none."""
    corners = corners_by_hand(book)
    if not corners:
        return None
    least = [min(worth_by_hand(payoff, corner) for corner in corners) for payoff, _ in book.quotes]
    if any(number.denominator > 1000 or abs(number.numerator) > 10 ** 6 for number in least):
        return None
    return Book(book.outcomes, tuple((payoff, pair(number)) for (payoff, _), number in zip(book.quotes, least)))


class OwnList:
    """A desk by hand: the list of all its books."""

    def __init__(self, book):
        self.books = [book]

    def put(self, outcomes, quotes):
        """Another book, None if it can not be."""
        self.books.append(Book(outcomes, tuple(quotes)))

    def do(self, word, *pieces):
        """Whether this change can be made; it is made then."""
        book = self.books[-1]
        quotes = list(book.quotes)
        if word == "quote" and len(quotes) < 32:
            self.put(book.outcomes, quotes + [pieces])
        elif word == "drop" and 0 <= pieces[0] < len(quotes):
            self.put(book.outcomes, quotes[:pieces[0]] + quotes[pieces[0] + 1:])
        elif word == "raise_to" and 0 <= pieces[0] < len(quotes):
            quotes[pieces[0]] = (quotes[pieces[0]][0], pieces[1])
            self.put(book.outcomes, quotes)
        elif word == "tighten" and tightened_by_hand(book) is not None:
            self.books.append(tightened_by_hand(book))
        elif word == "news" and len(quotes) < 32:
            payoff = tuple(int(at in pieces[0]) for at in range(book.outcomes))
            self.put(book.outcomes, quotes + [(payoff, (1, 1))])
        elif word == "undo" and len(self.books) > 1:
            self.books.pop()
        else:
            return False
        return True


def drawn_change(rng, outcomes, many):
    """The name and the arguments of some change."""
    word = rng.choice(("quote", "quote", "quote", "drop", "raise_to", "tighten", "news", "undo", "undo"))
    price = pair(Fraction(rng.randint(-12, 6), rng.choice((1, 2, 3, 4))))
    pieces = {"quote": (random_payoff(rng, outcomes), price), "drop": (rng.randint(-1, many),),
              "raise_to": (rng.randint(-1, many), price), "tighten": (), "undo": (),
              "news": (rng.choice(lots_of(outcomes)[1:] if rng.random() < 0.95 else lots_of(outcomes)),)}
    return (word,) + pieces[word]


class Rows(Told, unittest.TestCase):
    def check_desk(self, desk, own, rng):
        """What the desk tells is what its list of books tells."""
        book = own.books[-1]
        self.assertIs(type(desk.book), Book)
        self.assertEqual((str(desk.book), desk.book.quotes, desk.book.outcomes),
                         (str(book), book.quotes, book.outcomes))
        self.assertEqual((type(desk.changes), desk.changes), (int, len(own.books) - 1))
        corners, payoff = corners_by_hand(book), random_payoff(rng, book.outcomes)
        self.assertIs(desk.is_sound, bool(corners))
        if corners:
            worths = [worth_by_hand(payoff, corner) for corner in corners]
            self.check_both_ways(pair(min(worths)), desk.least, "payoff", payoff)
            self.check_both_ways(pair(max(worths)), desk.greatest, "payoff", payoff)
        else:
            for call in (desk.least, desk.greatest):
                self.check_error_both_ways(NotSound, {}, call, "payoff", payoff)

    def test_long_rows(self):
        rng, done = random.Random(341), {}
        for start in (HALF, RAIN, BAD3, Book(2, ()), sound_book(rng, 4, 2), any_book(rng, 3, 4)):
            desk, own = Desk(start), OwnList(start)
            for _ in range(70):
                word, *pieces = drawn_change(rng, start.outcomes, len(own.books[-1].quotes))
                if len(own.books[-1].quotes) > 6:
                    word, pieces = "drop", [0]
                made = own.do(word, *pieces)
                done[word, made] = done.get((word, made), 0) + 1
                if made:
                    self.assertIsNone(getattr(desk, word)(*pieces))
                else:
                    with self.assertRaises((InvalidIndex, NotSound, TooGreat, NothingToUndo)):
                        getattr(desk, word)(*pieces)
                self.check_desk(desk, own, rng)
            while own.do("undo"):
                self.assertIsNone(desk.undo())
                self.check_desk(desk, own, rng)
            self.assertEqual(desk.book, start)
            self.check_error(NothingToUndo, {}, desk.undo)
            self.check_desk(desk, own, rng)
        for word in ("quote", "drop", "raise_to", "tighten", "news", "undo"):
            self.assertGreater(done[word, True], 5, word)
        for word in ("drop", "raise_to", "tighten"):
            self.assertGreater(done[word, False], 1, word)

    def test_by_name(self):
        desk = Desk(book=HALF)
        self.assertIsNone(desk.quote(payoff=(1, -1), price=(0, 1)))
        self.assertIsNone(desk.raise_to(index=0, price=(1, 4)))
        self.assertIsNone(desk.news(lot=(1,)))
        self.assertIsNone(desk.drop(index=1))
        self.assertEqual(str(desk.book), "2: 1,0>=1/4 1,-1>=0/1 0,1>=1/1")
        self.assertIsNone(desk.undo())
        self.assertEqual(str(desk.book), "2: 1,0>=1/4 0,1>=1/3 1,-1>=0/1 0,1>=1/1")

    def test_thirty_two_quotes(self):
        desk = Desk(FULL)
        self.check_error_both_ways(TooGreat, {"given": 33}, desk.quote, "payoff price", (1, 0), (1, 2))
        self.check_error_both_ways(TooGreat, {"given": 33}, desk.news, "lot", (0,))
        self.assertEqual((desk.book, desk.changes), (FULL, 0))
        desk.drop(31)
        desk.news((0,))
        self.assertEqual(desk.book.quotes, FULL.quotes[:31] + (((1, 0), (1, 1)),))
        self.check_error(TooGreat, {"given": 33}, desk.news, (0,))
        self.assertEqual(desk.changes, 2)
        desk = Desk(Book(2, ()))
        for many in range(1, 33):
            desk.quote((0, 0), (0, 1))
            self.assertEqual((desk.changes, len(desk.book.quotes)), (many, many))
        self.check_error(TooGreat, {"given": 33}, desk.quote, (0, 0), (0, 1))
        self.assertEqual(desk.changes, 32)

    def test_news(self):
        desk = Desk(RAIN)
        for lot in lots_of(3):
            self.assertIsNone(desk.news(lot))
            self.assertEqual(desk.book.quotes[-1], (tuple(int(at in lot) for at in range(3)), (1, 1)))
            self.assertIs(desk.is_sound, lot == (0, 1, 2))
            desk.undo()
        self.assertEqual(desk.changes, 0)

    def test_changes_that_leave_all_as_it_was(self):
        desk = Desk(HALF)
        desk.tighten()
        desk.raise_to(1, (1, 3))
        desk.tighten()
        self.assertEqual((desk.book, desk.changes), (HALF, 3))
        for left in (2, 1, 0):
            desk.undo()
            self.assertEqual((desk.book, desk.changes), (HALF, left))
        self.check_error(NothingToUndo, {}, desk.undo)
        empty = Desk(SIX)
        empty.tighten()
        self.assertEqual((empty.book, empty.changes), (SIX, 1))


class Tighten(Told, unittest.TestCase):
    def test_by_hand(self):
        for book, text in ((MORE, "3: 1,0,0>=1/3 0,1,0>=1/4 0,0,1>=1/4 1,1,0>=7/12"), (RAIN, str(RAIN)),
                           (Book.read("2: 1,0>=-5/1 1,0>=1/2 0,7>=-1/1"), "2: 1,0>=1/2 1,0>=1/2 0,7>=0/1")):
            desk = Desk(book)
            self.assertIsNone(desk.tighten())
            self.assertEqual((str(desk.book), desk.changes), (text, 1))

    def test_prices_that_are_none(self):
        book = Book.read("3: 1,0,0>=1/997 0,1,0>=1/991 1,1,0>=0/1 1,2,0>=0/1")
        desk = Desk(book)
        with self.assertRaises(TooGreat) as caught:
            desk.tighten()
        self.assertEqual(caught.exception.given, (997 + 991, 997 * 991))
        self.assertEqual((desk.book, desk.changes), (book, 0))
        turned = Desk(Book.read("3: 1,0,0>=1/997 1,2,0>=0/1 0,1,0>=1/991 1,1,0>=0/1"))
        with self.assertRaises(TooGreat) as caught:
            turned.tighten()
        self.assertEqual(caught.exception.given, (991 + 2 * 997, 997 * 991))

    def test_prices_that_are_just_let(self):
        desk = Desk(Book.read("2: 1,0>=1/999 4,-1>=-1/1 0,1>=0/1"))
        desk.tighten()
        self.assertEqual(str(desk.book), "2: 1,0>=1/999 4,-1>=-994/999 0,1>=0/1")
        desk = Desk(Book.read("3: 1,0,0>=1/8 0,1,0>=1/125 1,1,0>=0/1 -1000,-1000,-1000>=-1000000/1"))
        desk.tighten()
        self.assertEqual(str(desk.book), "3: 1,0,0>=1/8 0,1,0>=1/125 1,1,0>=133/1000 -1000,-1000,-1000>=-1000/1")
        desk = Desk(Book.read("3: 1,0,0>=1/7 0,1,0>=1/143 1,1,0>=0/1"))
        with self.assertRaises(TooGreat) as caught:
            desk.tighten()
        self.assertEqual(caught.exception.given, (150, 1001))

    def test_not_sound(self):
        for book in (BAD, BAD3):
            desk = Desk(book)
            self.check_error(NotSound, {}, desk.tighten)
            self.assertEqual((desk.book, desk.changes), (book, 0))


class Failures(Told, unittest.TestCase):
    def check_nothing_changed(self, desk, book, changes):
        """The desk is as it was."""
        self.assertEqual((desk.book, desk.changes), (book, changes))

    def test_wrong_arguments(self):
        for value in NO_BOOKS:
            self.check_error_both_ways(NotABook, {"given": value}, Desk, "book", value)
        for start in (HALF, BAD):
            desk = Desk(start)
            desk.raise_to(0, (1, 4))
            book = desk.book
            payoffs, prices = given(InvalidPayoff, no_payoffs(2)), given(InvalidFraction, NO_PRICES)
            indexes = given(InvalidIndex, no_indexes(2))
            for name, names, right, wrong in (
                    ("quote", "payoff price", ((1, 0), (1, 2)), (payoffs, prices)), ("drop", "index", (0,), (indexes,)),
                    ("raise_to", "index price", (0, (1, 2)), (indexes, prices)),
                    ("news", "lot", ((0,),), (given(InvalidLot, no_lots(2)),)),
                    ("least", "payoff", ((1, 2),), (payoffs,)), ("greatest", "payoff", ((1, 2),), (payoffs,))):
                self.check_first_errors(getattr(desk, name), names, right, wrong)
                self.check_nothing_changed(desk, book, 1)

    def test_wrong_arguments_of_a_full_desk(self):
        desk = Desk(FULL)
        self.check_error(InvalidPayoff, {"given": 1}, desk.quote, 1, None)
        self.check_error(InvalidFraction, {"given": None}, desk.quote, (1, 0), None)
        self.check_error(InvalidLot, {"given": (2,)}, desk.news, (2,))
        self.check_nothing_changed(desk, FULL, 0)

    def test_no_quotes(self):
        desk = Desk(Book(2, ()))
        self.check_error(InvalidIndex, {"given": 0}, desk.drop, 0)
        self.check_error(InvalidIndex, {"given": 0}, desk.raise_to, 0, (1, 2))
        self.check_error(NothingToUndo, {}, desk.undo)
        self.check_nothing_changed(desk, Book(2, ()), 0)

    def test_one_desk_leaves_another_and_its_book_alone(self):
        text = str(HALF)
        one, two = Desk(HALF), Desk(HALF)
        one.quote((1, 0), (1, 1))
        self.assertEqual((str(HALF), str(two.book), two.changes), (text, text, 0))
        self.assertFalse(one.is_sound)
        self.assertTrue(two.is_sound and is_sound(HALF))
        self.assertTrue(one == one and one != two and one != HALF and not one == two)
        self.assertTrue(one and two)


class Trials(Told, unittest.TestCase):
    def test_ends(self):
        desk = Desk(HALF)
        desk.drop(0)
        book = desk.book
        with desk.trial() as held:
            self.assertIs(held, desk)
            held.quote((1, -1), (0, 1))
            held.tighten()
            self.assertEqual(desk.changes, 3)
        self.assertEqual((desk.book, desk.changes), (book, 1))
        for stop in STOPS + (Stop,):
            with self.assertRaises(stop):
                with desk.trial():
                    desk.news((1,))
                    raise stop()
            self.assertEqual((desk.book, desk.changes), (book, 1))
        with self.assertRaises(InvalidIndex) as caught:
            with desk.trial():
                desk.news((1,))
                desk.drop(2)
        self.assertEqual(caught.exception.given, 2)
        self.assertEqual((desk.book, desk.changes), (book, 1))
        desk.undo()
        self.assertEqual((desk.book, desk.changes), (HALF, 0))

    def test_left_by_return_and_break(self):
        desk = Desk(RAIN)

        def leave():
            with desk.trial() as held:
                held.drop(0)
                return held.changes

        self.assertEqual(leave(), 1)
        for _ in range(3):
            with desk.trial():
                desk.drop(0)
                break
        self.assertEqual((desk.book, desk.changes), (RAIN, 0))

    def test_taken_back_further_than_it_began(self):
        desk = Desk(HALF)
        desk.drop(0)
        desk.drop(0)
        with desk.trial():
            desk.undo()
            desk.undo()
            self.check_error(NothingToUndo, {}, desk.undo)
            desk.news((0,))
            self.assertEqual(str(desk.book), str(HALF) + " 1,0>=1/1")
        self.assertEqual((str(desk.book), desk.changes), ("2:", 2))
        desk.undo()
        self.assertEqual((str(desk.book), desk.changes), ("2: 0,1>=1/3", 1))
        desk.undo()
        self.assertEqual((desk.book, desk.changes), (HALF, 0))

    def test_within_one_another(self):
        desk = Desk(HALF)
        with desk.trial():
            desk.drop(0)
            with desk.trial():
                desk.drop(0)
                with self.assertRaises(Stop):
                    with desk.trial():
                        desk.undo()
                        desk.undo()
                        raise Stop()
                self.assertEqual((str(desk.book), desk.changes), ("2:", 2))
            self.assertEqual((str(desk.book), desk.changes), ("2: 0,1>=1/3", 1))
            desk.quote((0, 0), (0, 1))
        self.assertEqual((desk.book, desk.changes), (HALF, 0))

    def test_one_trial_entered_several_times(self):
        desk = Desk(HALF)
        trial = desk.trial()
        desk.drop(1)
        with trial as one:
            desk.drop(0)
            with trial as two:
                desk.quote((1, 1), (0, 1))
                with trial as three:
                    desk.undo()
                    desk.undo()
                    self.assertTrue(one is two is three is desk)
                self.assertEqual((str(desk.book), desk.changes), ("2: 1,1>=0/1", 3))
            self.assertEqual((str(desk.book), desk.changes), ("2:", 2))
        self.assertEqual((str(desk.book), desk.changes), ("2: 1,0>=1/3", 1))
        desk.undo()
        # It begins anew where the desk is when it is entered.
        with trial:
            desk.news((0,))
        self.assertEqual((desk.book, desk.changes), (HALF, 0))
        self.assertTrue(trial == trial and trial != desk.trial() and trial)

    def test_trials_of_two_desks(self):
        one, two = Desk(HALF), Desk(RAIN)
        with one.trial(), two.trial():
            one.drop(0)
            two.drop(2)
            with one.trial():
                two.drop(0)
        self.assertEqual((one.book, two.book), (HALF, RAIN))

    def test_tried(self):
        desk = Desk(HALF)

        def act(held):
            held.drop(0)
            held.quote((1, 0), (1, 2))
            return [held, held.least((6, 0)), held.changes]

        for told in (desk.tried(act), desk.tried(action=act)):
            self.assertIs(told[0], desk)
            self.assertEqual(told[1:], [(3, 1), 2])
        self.assertEqual((desk.book, desk.changes), (HALF, 0))
        self.assertIsNone(desk.tried(lambda held: None))
        self.assertEqual(desk.tried(lambda held: held.tried(lambda inner: (inner.drop(0), str(inner.book))[1])),
                         "2: 0,1>=1/3")
        for stop in STOPS + (Stop,):
            def fail(held):
                held.drop(0)
                raise stop()
            with self.assertRaises(stop):
                desk.tried(fail)
            self.assertEqual((desk.book, desk.changes), (HALF, 0))
        self.check_error(InvalidIndex, {"given": 9}, desk.tried, lambda held: held.drop(9))
        self.assertEqual((desk.book, desk.changes), (HALF, 0))

    def test_long_rows_of_trials(self):
        rng = random.Random(342)
        for start in (HALF, RAIN, sound_book(rng, 4, 3)):
            desk, own, trials = Desk(start), OwnList(start), []
            shared = desk.trial()

            def led(depth):
                """Changes and trials within one another, beside an own list."""
                for _ in range(6):
                    word, *pieces = drawn_change(rng, start.outcomes, len(own.books[-1].quotes))
                    if word == "tighten":
                        continue
                    if own.do(word, *pieces):
                        getattr(desk, word)(*pieces)
                    if depth and rng.random() < 0.4:
                        kept = list(own.books)
                        with rng.choice((shared, desk.trial())) as held:
                            trials.append(held)
                            led(depth - 1)
                        own.books = kept
                    self.assertEqual((str(desk.book), desk.changes), (str(own.books[-1]), len(own.books) - 1))

            for _ in range(8):
                led(3)
            self.assertGreater(len(trials), 20)


class BesideBooks(Told, unittest.TestCase):
    def test_the_same_as_of_the_book(self):
        rng = random.Random(343)
        for outcomes in (2, 3, 4, 5, 6):
            book = sound_book(rng, outcomes, 9)
            desk, payoff = Desk(book), random_payoff(rng, outcomes, 1000)
            self.assertEqual(desk.least(payoff), least_worth(book, payoff))
            self.assertEqual(desk.greatest(payoff), greatest_worth(book, payoff))
            desk.quote(payoff, (0, 1))
            self.assertEqual(desk.book, book.with_quote(payoff, (0, 1)))
            desk.undo()
            desk.drop(4)
            self.assertEqual(desk.book, book.without(4))
            self.assertTrue(all(keeps_by_hand(desk.book, corner) for corner in corners_by_hand(book)[:3]))


if __name__ == "__main__":
    unittest.main()
