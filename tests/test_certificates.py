import random
import unittest
from fractions import Fraction

from softchances.acts import beating_mix, chance_for_act, good_acts
from softchances.books import Book, chance_for, is_sound
from softchances.bounds import bounds_of, gathers, scattering
from softchances.certificates import (certify_act, certify_behind, certify_book, certify_bounds, certify_least,
                                      certify_masses, certify_most, certify_question, certify_quote, certify_walk)
from softchances.checker import accepts
from softchances.errors import (InvalidActs, InvalidBounds, InvalidFraction, InvalidIndex, InvalidLot, InvalidNumber,
                                InvalidPayoff, InvalidQuestion, InvalidWalk, Never, NotABook, NotSound)
from softchances.masses import beliefs, masses_of
from softchances.news import least_behind, widens
from softchances.tight import follows
from softchances.walks import least_after
from softchances.worths import greatest_chance, greatest_worth, least_worth
from tests.judge import is_certificate
from tests.test_checker import COINS, LOOSE, coins_book
from tests.test_walks import NO_WALKS, PAIR, walks
from tests.tools import (BAD, BAD3, BAD6, HALF, NO_BOOKS, NO_PRICES, RAIN, SIX, Told, given, indexed, lots_of,
                         never_books, no_indexes, no_lots, no_payoffs, pair, pairs, random_chance, random_payoff,
                         small_books, some_books, sound_book)

CONTRARY = {"sound": "loses", "loses": "sound", "follows": "free", "free": "follows", "good": "poor", "poor": "good",
            "widens": "steady", "steady": "widens", "gathers": "scatters", "scatters": "gathers"}
QUESTIONS = {2: ((0,), (1,)), 3: ((0, 2), (1,)), 4: ((0, 2), (1, 3)), 5: ((0, 4), (1,), (2, 3))}
NO_QUESTIONS = ((None, None), ((), None), (((0, 1),), None), ([(0,), (1,)], None), (((0,), (2,)), 1), (((0,), ()), 1),
                (((0,), (0, 1)), 1), ((True, (1,)), 0), (((0,), [1]), 1), (((0,), (True,)), 1))
NO_ACTS = ((None, None), ((), None), ([(0, 1)], None), (((0, 1), (0,)), 1), (((0, True),), 0), (((0, 1001),), 0),
           (((0, 1),) * 9, 8))
NO_BOUNDS = ((None, None), ((), None), (((0, 1), (1, 1)), None), ([(0, 1)] * 3 + [(1, 1)], None),
             (((0, 1), (1, 2), (2, 4), (1, 1)), 2), (((0, 1), (1, 2), (1, 3), (1, 2)), 3), (((1, 2),) * 4, 0),
             (((0, 1), (1, 10 ** 6 + 1), (0, 1), (1, 1)), 1), (((0, 1), (1, 2), True, (1, 1)), 2))


class Certified(Told):
    """Checks of a claim with its certificate."""

    def check_certified(self, told, words, *pieces):
        """It is a claim with one of the words and these pieces, and its certificate alone is accepted."""
        self.assertEqual((type(told), len(told)), (tuple, 2))
        claim, certificate = told
        self.assertIs(type(claim), tuple)
        self.assertIn(claim[0], words)
        self.assertEqual(claim[1:], pieces)
        self.assertTrue(is_certificate(claim, certificate), told)
        self.assertIs(accepts(claim, certificate), True)
        if claim[0] in CONTRARY:
            self.assertFalse(accepts((CONTRARY[claim[0]],) + claim[1:], certificate))
        return claim[0], certificate


def any_books(seed):
    """Books that are sound and books that are not, with none to thirty-two quotes."""
    yield from (BAD, BAD3, BAD6, HALF, RAIN, SIX)
    yield from some_books(seed, sound=False)


class Books(Certified, unittest.TestCase):
    def test_books(self):
        words = set()
        for book in any_books(361):
            told = certify_book(book)
            word, certificate = self.check_certified(told, ("sound", "loses"), str(book))
            self.assertEqual(word == "sound", is_sound(book))
            self.assertEqual(certify_book(book=book), told)
            words.add(word)
        self.assertEqual(len(words), 2)

    def test_worths(self):
        rng = random.Random(362)
        for book in list(some_books(362)) + list(never_books(362)):
            payoff = random_payoff(rng, book.outcomes, rng.choice((3, 1000)))
            for call, end, word in ((certify_least, least_worth, "least"), (certify_most, greatest_worth, "most")):
                told = call(book, payoff)
                number = end(book, payoff)
                _, certificate = self.check_certified(told, (word,), str(book), payoff, number)
                self.assertEqual(call(book=book, payoff=payoff), told)
                for step in (Fraction(1, 10 ** 30), Fraction(-1, 10 ** 30)):
                    other = pair(Fraction(*number) + step)
                    self.assertFalse(accepts((word, str(book), payoff, other), certificate))

    def test_quotes(self):
        rng, words = random.Random(363), {}
        for book in any_books(363):
            payoffs = [random_payoff(rng, book.outcomes, 3)] + [payoff for payoff, _ in book.quotes[:1]]
            for payoff in payoffs:
                prices = [pair(Fraction(rng.randint(-30, 30), rng.randint(1, 9)))]
                if is_sound(book):
                    least = Fraction(*least_worth(book, payoff))
                    prices += [pair(Fraction((least * 1000).__floor__() + more, 1000)) for more in (0, 1)]
                for price in prices:
                    told = certify_quote(book, payoff, price)
                    word, _ = self.check_certified(told, ("follows", "free"), str(book), payoff, price)
                    self.assertEqual(word == "follows", not is_sound(book) or follows(book, payoff, price))
                    self.assertEqual(certify_quote(book=book, payoff=payoff, price=price), told)
                    words[word, is_sound(book)] = True
        self.assertEqual(len(words), 3)

    def test_acts(self):
        rng, words = random.Random(364), {}
        for book in some_books(364):
            acts = tuple(random_payoff(rng, book.outcomes, rng.choice((2, 1000))) for _ in range(rng.randint(1, 8)))
            for act in range(len(acts)):
                told = certify_act(book, acts, act)
                word, certificate = self.check_certified(told, ("good", "poor"), str(book), acts, act)
                self.assertEqual(word == "good", act in good_acts(book, acts))
                self.assertEqual(word == "good", chance_for_act(book, acts, act) is not None)
                self.assertEqual(word == "poor", beating_mix(book, acts, act) is not None)
                if word == "poor":
                    self.assertEqual(certificate[1], beating_mix(book, acts, act))
                self.assertEqual(certify_act(book=book, acts=acts, act=act), told)
                words[word] = words.get(word, 0) + 1
        self.assertGreater(min(words["good"], words["poor"]), 50)

    def test_questions(self):
        rng, words = random.Random(365), {}
        books = list(small_books(365, 4)) + list(never_books(365, 4))
        books += [coins_book(Fraction(rng.randint(1, 3), 4), Fraction(rng.randint(1, 3), 4), 0) for _ in range(9)]
        for book in books + [COINS]:
            payoff = rng.choice((random_payoff(rng, book.outcomes), (1, 1, 0, 0)[:book.outcomes]))
            question = QUESTIONS[book.outcomes]
            told = certify_question(book, question, payoff)
            word, certificate = self.check_certified(told, ("widens", "steady"), str(book), question, payoff)
            self.assertEqual((word == "widens", certificate), (widens(book, question, payoff), ()))
            self.assertEqual(certify_question(book=book, question=question, payoff=payoff), told)
            words[word] = True
        self.assertEqual(len(words), 2)

    def test_behind(self):
        rng, never = random.Random(366), 0
        for book in list(small_books(366, 5)) + list(never_books(366)):
            for lot in lots_of(book.outcomes):
                payoff = random_payoff(rng, book.outcomes, rng.choice((3, 1000)))
                if greatest_chance(book, lot) == (0, 1):
                    never += 1
                    self.check_error_both_ways(Never, {}, certify_behind, "book lot payoff", book, lot, payoff)
                    continue
                told, number = certify_behind(book, lot, payoff), least_behind(book, lot, payoff)
                _, certificate = self.check_certified(told, ("behind",), str(book), lot, payoff, number)
                self.assertEqual(certify_behind(book=book, lot=lot, payoff=payoff), told)
                for step in (Fraction(1, 10 ** 30), Fraction(-1, 10 ** 30)):
                    other = pair(Fraction(*number) + step)
                    self.assertFalse(accepts(("behind", str(book), lot, payoff, other), certificate))
        self.assertGreater(never, 30)

    def test_behind_for_large_books(self):
        rng = random.Random(367)
        for outcomes in (2, 4, 6):
            book = sound_book(rng, outcomes, 32, 1000, 200)
            for lot in lots_of(outcomes)[1::5]:
                payoff = random_payoff(rng, outcomes, 1000)
                told = certify_behind(book, lot, payoff)
                self.check_certified(told, ("behind",), str(book), lot, payoff, least_behind(book, lot, payoff))


class Bounds(Certified, unittest.TestCase):
    def test_bounds(self):
        rng, words = random.Random(368), {}
        found = [LOOSE] + [bounds_of(book) for book in small_books(368, 4)]
        for _ in range(60):
            outcomes = rng.randint(2, 5)
            chances = [random_chance(rng, outcomes, 3) for _ in range(rng.randint(1, 3))]
            found.append(tuple(pair(min(sum((chance[at] for at in lot), Fraction(0)) for chance in chances))
                               for lot in lots_of(outcomes)))
        for bounds in found:
            if max(bottom for _, bottom in bounds) > 10 ** 6:
                continue
            told = certify_bounds(bounds)
            word, certificate = self.check_certified(told, ("gathers", "scatters"), bounds)
            self.assertEqual((word == "gathers", word == "scatters"), (gathers(bounds), bool(scattering(bounds))))
            self.assertEqual(certify_bounds(bounds=bounds), told)
            massed = certify_masses(bounds)
            self.assertEqual(certify_masses(bounds=bounds), massed)
            if masses_of(bounds) is None:
                self.assertIsNone(massed)
            else:
                _, masses = self.check_certified(massed, ("masses",), bounds)
                self.assertEqual(masses, masses_of(bounds))
                self.assertEqual(word, "gathers")
                if max(bottom for _, (_, bottom) in masses) <= 10 ** 6:
                    self.assertEqual(beliefs(len(bounds).bit_length() - 1, masses), bounds)
            words[word, massed is None] = words.get((word, massed is None), 0) + 1
        self.assertEqual(set(words), {("gathers", True), ("gathers", False), ("scatters", True)})


class Walks(Certified, unittest.TestCase):
    def test_walks(self):
        rng = random.Random(369)
        for walk in walks(369):
            payoff = random_payoff(rng, len(walk), rng.choice((3, 1000)))
            texts = tuple(map(str, walk))
            for steps in (0, 1, 2, 8):
                worths = least_after(walk, payoff, steps)
                for index in range(len(walk)):
                    told = certify_walk(walk, payoff, steps, index)
                    _, certificate = self.check_certified(told, ("walk",), texts, payoff, steps, index, worths[index])
                    self.assertEqual(certificate, ())
                    self.assertEqual(certify_walk(walk=walk, payoff=payoff, steps=steps, index=index), told)
                    number = pair(Fraction(*worths[index]) + Fraction(1, 10 ** 50))
                    self.assertFalse(accepts(("walk", texts, payoff, steps, index, number), ()))

    def test_most_steps(self):
        for steps in (9, 10, 20):
            self.check_error_both_ways(InvalidNumber, {"given": steps}, certify_walk, "walk payoff steps index", PAIR,
                                       (0, 1), steps, 0)
            number = least_after(PAIR, (0, 1), steps)[0]
            self.assertFalse(accepts(("walk", tuple(map(str, PAIR)), (0, 1), steps, 0, number), ()))


class Errors(Told, unittest.TestCase):
    def test_book_alone(self):
        for value in NO_BOOKS:
            self.check_error_both_ways(NotABook, {"given": value}, certify_book, "book", value)

    def test_worths(self):
        wrong = given(NotABook, NO_BOOKS), given(InvalidPayoff, no_payoffs(2))
        for call in (certify_least, certify_most):
            self.check_first_errors(call, "book payoff", (HALF, (1, 2)), wrong)
            self.check_error_both_ways(NotSound, {}, call, "book payoff", BAD, (1, 2))
            self.check_error_both_ways(InvalidPayoff, {"given": (1,)}, call, "book payoff", BAD, (1,))

    def test_quotes(self):
        wrong = given(NotABook, NO_BOOKS), given(InvalidPayoff, no_payoffs(2)), given(InvalidFraction, NO_PRICES)
        for book in (HALF, BAD):
            self.check_first_errors(certify_quote, "book payoff price", (book, (1, 2), (1, 2)), wrong)
        self.assertEqual(certify_quote(BAD, (0, 0), (10 ** 6, 1))[0][0], "follows")

    def test_acts(self):
        wrong = given(NotABook, NO_BOOKS), indexed(InvalidActs, NO_ACTS), given(InvalidIndex, no_indexes(2))
        for book in (HALF, BAD):
            self.check_first_errors(certify_act, "book acts act", (book, ((1, 2), (0, 3)), 1), wrong)
        self.check_error_both_ways(NotSound, {}, certify_act, "book acts act", BAD, ((1, 2), (0, 3)), 1)

    def test_questions(self):
        wrong = (given(NotABook, NO_BOOKS), indexed(InvalidQuestion, NO_QUESTIONS), given(InvalidPayoff, no_payoffs(2)))
        for book in (HALF, BAD):
            self.check_first_errors(certify_question, "book question payoff", (book, ((0,), (1,)), (1, 2)), wrong)
        self.check_error_both_ways(NotSound, {}, certify_question, "book question payoff", BAD, ((0,), (1,)), (1, 2))

    def test_bounds(self):
        for value, index in NO_BOUNDS:
            for call in (certify_bounds, certify_masses):
                self.check_error_both_ways(InvalidBounds, {"index": index}, call, "bounds", value)

    def test_behind(self):
        wrong = given(NotABook, NO_BOOKS), given(InvalidLot, no_lots(2)), given(InvalidPayoff, no_payoffs(2))
        for book in (HALF, BAD):
            self.check_first_errors(certify_behind, "book lot payoff", (book, (1,), (1, 2)), wrong)
        self.check_error_both_ways(NotSound, {}, certify_behind, "book lot payoff", BAD, (), (1, 2))
        self.check_error_both_ways(Never, {}, certify_behind, "book lot payoff", HALF, (), (1, 2))

    def test_walks(self):
        steps = (-1, 9, 20, 21, None, True, False, "1", (1,), [1], 10 ** 70)
        wrong = (indexed(InvalidWalk, NO_WALKS), given(InvalidPayoff, no_payoffs(2)), given(InvalidNumber, steps),
                 given(InvalidIndex, no_indexes(2)))
        self.check_first_errors(certify_walk, "walk payoff steps index", (PAIR, (1, 2), 8, 1), wrong)


class Whole(Told, unittest.TestCase):
    def test_nothing_is_changed(self):
        for book in (HALF, BAD, RAIN):
            payoff, text = tuple(range(book.outcomes)), str(book)
            certify_book(book)
            certify_quote(book, payoff, (1, 2))
            if chance_for(book) is not None:
                for call in (certify_least, certify_most):
                    self.assertEqual(call(book, payoff), call(Book.read(text), payoff))
                self.assertEqual(certify_act(book, (payoff,), 0), certify_act(Book.read(text), (payoff,), 0))
            self.assertEqual(str(book), text)
        self.assertEqual(pairs(()), ())


if __name__ == "__main__":
    unittest.main()
