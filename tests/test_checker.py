import random
import unittest
from fractions import Fraction

from softchances.books import Book
from softchances.certificates import (certify_act, certify_behind, certify_book, certify_bounds, certify_least,
                                      certify_masses, certify_most, certify_question, certify_quote, certify_walk)
from softchances.bounds import bounds_of
from softchances.checker import accepts
from tests.judge import PIECES, bent, is_certificate
from tests.test_walks import PAIR
from tests.tools import (BAD, BAD3, HALF, MORE, ODD_VALUES, RAIN, SIX, Told, any_book, corners_by_hand, lots_of, pair,
                         pairs, point_book, random_chance, random_payoff, sound_book, worth_by_hand)

COINS = Book(4, (((1, 1, 0, 0), (1, 2)), ((-1, -1, 0, 0), (-1, 2)), ((1, 0, 1, 0), (1, 2)),
                 ((-1, 0, -1, 0), (-1, 2))))
LOOSE = ((0, 1), (0, 1), (0, 1), (3, 5), (0, 1), (3, 5), (3, 5), (1, 1))
BIG = 10 ** 40


def right_pairs():
    """Claims with certificates for them, of each kind."""
    for book in (HALF, BAD, RAIN, BAD3, Book(2, ()), SIX, Book.read("2: 1,0>=2/1")):
        yield certify_book(book)
        yield certify_quote(book, (1,) * book.outcomes, (1, 1))
        yield certify_quote(book, (1,) + (0,) * (book.outcomes - 1), (1, 2))
    for book in (HALF, MORE, Book(2, ()), Book.read("2: 1,0>=1/2 -1,0>=-1/2")):
        payoff = (6, 0, -6)[:book.outcomes]
        yield certify_least(book, payoff)
        yield certify_most(book, payoff)
        yield certify_behind(book, (0,), payoff)
        yield certify_behind(book, (0, 1), payoff)
        for act in range(3):
            yield certify_act(book, ((6, 0, 0)[:book.outcomes], (0, 6, 0)[:book.outcomes], (2,) * book.outcomes), act)
    yield certify_question(COINS, ((0, 2), (1, 3)), (1, 1, 0, 0))
    yield certify_question(RAIN, ((0, 2), (1,)), (1, 2, 3))
    for bounds in (bounds_of(RAIN), bounds_of(HALF), LOOSE):
        yield certify_bounds(bounds)
        if certify_masses(bounds) is not None:
            yield certify_masses(bounds)
    yield certify_walk(PAIR, (0, 1), 2, 0)
    yield certify_walk(PAIR, (3, -1), 0, 1)


def coins_book(one, two, more):
    """The book of two coins with these chances to fall on their heads, perhaps with more."""
    quotes = []
    for payoff, number in (((1, 1, 0, 0), one), ((1, 0, 1, 0), two)):
        quotes += [(payoff, pair(number)), (tuple(-number for number in payoff), pair(-number))]
    return Book(4, tuple(quotes + [((1, 0, 0, 0), pair(one * two))] * more))


class Right(Told, unittest.TestCase):
    def test_accepted(self):
        seen = set()
        for claim, certificate in right_pairs():
            self.assertTrue(is_certificate(claim, certificate), (claim, certificate))
            self.check_both_ways(True, accepts, "claim certificate", claim, certificate)
            seen.add(claim[0])
        self.assertEqual(seen, set(PIECES))

    def test_by_hand(self):
        # Certificates that no function of the package wrote.
        half, bad, rain = str(HALF), str(BAD), str(RAIN)
        for claim, certificate, told in (
                (("sound", half), ((1, 3), (2, 3)), True), (("sound", half), ((1, 4), (3, 4)), False),
                (("sound", half), ((1, 2), (1, 3)), False), (("sound", half), ((3, 2), (-1, 2)), False),
                (("sound", half), ((5 * BIG, 10 * BIG + 2), (5 * BIG + 2, 10 * BIG + 2)), False),
                (("sound", half), ((5 * BIG, 10 * BIG + 1), (5 * BIG + 1, 10 * BIG + 1)), True),
                (("sound", "2:"), ((1, BIG), (BIG - 1, BIG)), True), (("sound", "1:"), ((1, 1),), False),
                (("loses", bad), ((1, 1), (1, 1)), True), (("loses", bad), ((2, 1), (1, 1)), False),
                (("loses", bad), ((BIG, 1), (BIG, 1)), True), (("loses", bad), ((1, BIG), (1, BIG)), True),
                (("loses", bad), ((0, 1), (0, 1)), False), (("loses", half), ((1, 1), (1, 1)), False),
                (("loses", bad), ((-1, 1), (-1, 1)), False), (("loses", "2:"), (), False),
                (("least", half, (1, 0), (1, 3)), (((1, 3), (2, 3)), ((1, 1), (0, 1))), True),
                (("least", half, (1, 0), (1, 3)), (((1, 2), (1, 2)), ((1, 1), (0, 1))), False),
                (("least", half, (1, 0), (1, 3)), (((1, 3), (2, 3)), ((0, 1), (0, 1))), False),
                (("least", half, (1, 0), (1, 4)), (((1, 4), (3, 4)), ((1, 1), (0, 1))), False),
                (("least", half, (1, 0), (2, 3)), (((2, 3), (1, 3)), ((0, 1), (0, 1))), False),
                (("most", half, (1, 0), (2, 3)), (((2, 3), (1, 3)), ((0, 1), (1, 1))), True),
                (("most", half, (1, 0), (2, 3)), (((2, 3), (1, 3)), ((1, 1), (0, 1))), False),
                (("most", half, (1, 0), (1, 3)), (((1, 3), (2, 3)), ((1, 1), (0, 1))), False),
                (("follows", half, (1, 0), (1, 4)), ((1, 1), (0, 1)), True),
                (("follows", half, (1, 0), (1, 3)), ((1, 1), (0, 1)), True),
                (("follows", half, (1, 0), (1, 2)), ((1, 1), (0, 1)), False),
                (("follows", half, (3, 3), (2, 1)), ((0, 1), (0, 1)), True),
                (("follows", bad, (-5, -5), (7, 1)), ((1, 1), (1, 1)), True),
                (("follows", bad, (-5, -5), (7, 1)), ((BIG, 1), (0, 1)), False),
                (("follows", half, (1, 0), (1, 1001)), ((1, 1), (0, 1)), False),
                (("follows", half, (1, 0), (-BIG, 1)), ((1, 1), (0, 1)), False),
                (("free", half, (1, 0), (1, 2)), ((1, 3), (2, 3)), True),
                (("free", half, (1, 0), (1, 2)), ((1, 2), (1, 2)), False),
                (("free", half, (1, 0), (1, 2)), ((1, 4), (3, 4)), False),
                (("free", half, (0, 1), (667, 1000)), ((1, 3), (2, 3)), True),
                (("free", half, (0, 1), (667, 1001)), ((1, 3), (2, 3)), False),
                (("good", half, ((6, 0), (0, 6)), 0), ((1, 2), (1, 2)), True),
                (("good", half, ((6, 0), (0, 6)), 0), ((1, 3), (2, 3)), False),
                (("good", half, ((6, 0), (0, 6)), 0), ((1, 1), (0, 1)), False),
                (("poor", half, ((6, 0), (0, 6), (2, 2)), 2),
                 (((1, 2), (1, 2)), ((1, 2), (1, 2), (0, 1)), ((0, 1), (0, 1))), True),
                (("poor", half, ((6, 0), (0, 6), (2, 2)), 2),
                 (((1, 2), (1, 2)), ((2, 3), (1, 3), (0, 1)), ((0, 1), (0, 1))), False),
                (("poor", half, ((6, 0), (0, 6), (2, 2)), 2),
                 (((1, 2), (1, 2)), ((2, 3), (1, 3), (0, 1)), ((2, 1), (0, 1))), True),
                (("poor", half, ((6, 0), (0, 6), (2, 2)), 2),
                 (((1, 2), (1, 2)), ((1, 1), (1, 1), (0, 1)), ((0, 1), (0, 1))), False),
                (("poor", half, ((6, 0), (0, 6), (2, 2)), 2),
                 (((1, 1), (0, 1)), ((1, 2), (1, 2), (0, 1)), ((0, 1), (0, 1))), False),
                (("poor", bad, ((6, 0), (2, 2)), 1), (((1, 2), (1, 2)), ((1, 1), (0, 1)), ((9, 1), (9, 1))), False),
                (("behind", rain, (0, 1), (1, 0, 0), (4, 9)),
                 (((1, 3), (5, 12), (1, 4)), ((1, 1), (0, 1), (4, 9))), True),
                (("behind", rain, (0, 1), (1, 0, 0), (4, 9)),
                 (((1, 3), (5, 12), (1, 4)), ((1, 1), (0, 1), (1, 3))), False),
                (("behind", rain, (), (1, 0, 0), (0, 1)), (((1, 3), (5, 12), (1, 4)), ((0, 1),) * 3), False),
                (("behind", "2: 0,1>=1/1", (0,), (0, 0), (0, 1)), (((0, 1), (1, 1)), ((0, 1),)), False)):
            self.assertIs(is_certificate(claim, certificate), told, (claim, certificate))
            self.check_both_ways(told, accepts, "claim certificate", claim, certificate)

    def test_claims_of_bounds_and_walks_by_hand(self):
        fine = tuple(pairs(Fraction(number) for number in ("0", "1/3", "1/4", "1")))
        big = ((0, 1), (1, BIG - 1), (BIG - 1, BIG), (1, 1))
        lots = (((0,), (1, 3)), ((0, 1), (5, 12)), ((1,), (1, 4)))
        texts = tuple(map(str, PAIR))
        for claim, certificate, told in (
                (("gathers", fine), (), True), (("gathers", LOOSE), (), False), (("gathers", list(fine)), (), False),
                (("scatters", LOOSE), ((0, 1), (0, 2)), True), (("scatters", LOOSE), ((0, 2), (0, 1)), True),
                (("scatters", LOOSE), ((0, 1), (0, 1)), False), (("scatters", LOOSE), ((0,), (1,)), False),
                (("scatters", LOOSE), ((0, 1), (2, 0)), False), (("scatters", LOOSE), ((0, 1), (0, 2), ()), False),
                (("scatters", LOOSE), ((False, 1), (0, 2)), False), (("scatters", LOOSE), ((0, 1), (0, 3)), False),
                (("masses", fine), lots, True), (("masses", fine), lots[::-1], False),
                (("masses", fine), lots[:2], False), (("masses", fine), lots + (((2,), (1, 1)),), False),
                (("masses", fine), (((), (0, 1)),) + lots, False), (("masses", LOOSE), (), False),
                (("gathers", big), (), False), (("scatters", big), ((0,), (1,)), True),
                (("gathers", ((0, 1), (1, BIG), (1, BIG), (1, 1))), (), True),
                (("masses", ((0, 1), (1, BIG), (1, BIG), (1, 1))),
                 (((0,), (1, BIG)), ((0, 1), (BIG // 2 - 1, BIG // 2)), ((1,), (1, BIG))), True),
                (("gathers", ((0, 1), (1, 1))), (), False), (("gathers", ((0, 1),) * 3 + ((1, 1),)), (), True),
                (("gathers", ((0, 1),) * 31 + ((1, 1),)), (), True),
                (("gathers", ((0, 1),) * 63 + ((1, 1),)), (), False),
                (("gathers", ((0, 1), (2, 1), (0, 1), (1, 1))), (), False),
                (("gathers", ((1, 2), (1, 2), (1, 2), (1, 1))), (), False),
                (("gathers", ((0, 1), (0, 1), (0, 1), (1, 2))), (), False),
                (("gathers", ((0, 1), (1, 2), (0, 1), (1, 3), (0, 1), (1, 2), (1, 2), (1, 1))), (), False),
                (("walk", texts, (0, 1), 2, 0, (1, 8)), (), True), (("walk", texts, (0, 1), 2, 1, (1, 12)), (), True),
                (("walk", texts, (0, 1), 2, 0, (1, 12)), (), False),
                (("walk", texts, (0, 1), 2, 2, (1, 8)), (), False),
                (("walk", texts, (0, 1), 2, -2, (1, 8)), (), False),
                (("walk", texts, (0, 1), 0, 1, (1, 1)), (), True),
                (("walk", ("2: 1,0>=1/2 -1,0>=-1/2", "2: 0,1>=1/1"), (1, 0), 8, 0, (1, 256)), (), True),
                (("walk", ("2: 1,0>=1/2 -1,0>=-1/2", "2: 0,1>=1/1"), (1, 0), 9, 0, (1, 512)), (), False),
                (("walk", texts, (0, 1), True, 0, (1, 4)), (), False),
                (("walk", texts, (0, 1), 1, 0, (1, 4)), (), True),
                (("walk", texts, (0, 1), 1, False, (1, 4)), (), False),
                (("walk", texts[:1], (0,), 1, 0, (0, 1)), (), False),
                (("walk", (str(BAD), texts[1]), (0, 1), 0, 0, (0, 1)), (), False),
                (("walk", (str(RAIN),) * 2, (0, 1), 0, 0, (0, 1)), (), False),
                (("walk", PAIR, (0, 1), 2, 0, (1, 8)), (), False),
                (("walk", texts, (0, 1), 2, 0, (1, 8)), ((),), False)):
            self.assertIs(is_certificate(claim, certificate), told, (claim, certificate))
            self.check_both_ways(told, accepts, "claim certificate", claim, certificate)

    def test_bounds_of_all_lengths(self):
        for many in range(70):
            bounds = ((0, 1),) * (many - 1) + ((1, 1),)
            told = many in (4, 8, 16, 32)
            self.assertIs(is_certificate(("gathers", bounds), ()), told)
            self.check_both_ways(told, accepts, "claim certificate", ("gathers", bounds), ())
            everything = tuple(range(many.bit_length() - 1))
            self.check_both_ways(told, accepts, "claim certificate", ("masses", bounds), ((everything, (1, 1)),))

    def test_most_acts(self):
        chance, sale = ((1, 2), (1, 2)), ((0, 1), (0, 1))
        for many in (1, 2, 8, 9, 10):
            acts, mix = ((0, 0),) * (many - 1) + ((1, 1),), ((0, 1),) * (many - 1) + ((1, 1),)
            for claim, certificate, told in ((("good", str(HALF), acts, many - 1), chance, many < 9),
                                             (("poor", str(HALF), acts, 0), (chance, mix, sale), 1 < many < 9),
                                             (("good", str(HALF), (), 0), chance, False),
                                             (("good", str(HALF), acts, many), chance, False),
                                             (("good", str(HALF), acts, -1), chance, False)):
                self.assertIs(is_certificate(claim, certificate), told)
                self.check_both_ways(told, accepts, "claim certificate", claim, certificate)

    def test_questions_by_hand(self):
        coins, even, odd = str(COINS), ((0, 3), (1, 2)), ((0, 2), (1, 3))
        for word, told in (("widens", True), ("steady", False)):
            for claim, right in (((word, coins, odd, (1, 1, 0, 0)), told),
                                 ((word, coins, even, (1, 1, 0, 0)), not told),
                                 ((word, coins, odd, (1, 1, 1, 1)), not told),
                                 ((word, coins, odd[:1], (1, 1, 0, 0)), False),
                                 ((word, coins, odd + ((),), (1, 1, 0, 0)), False),
                                 ((word, coins, odd, (1, 1, 0)), False),
                                 ((word, str(BAD), ((0,), (1,)), (1, 1)), False),
                                 ((word, coins, ((0, 1, 2, 3), ()), (1, 1, 0, 0)), False),
                                 ((word, coins, list(odd), (1, 1, 0, 0)), False),
                                 ((word, COINS, odd, (1, 1, 0, 0)), False)):
                self.assertIs(is_certificate(claim, ()), right, claim)
                self.check_both_ways(right, accepts, "claim certificate", claim, ())
                for value in ([], "", None, ((),), 0, False, {}):
                    self.check_both_ways(False, accepts, "claim certificate", claim, value)


class Bent(Told, unittest.TestCase):
    def test_each_piece_bent(self):
        looked, accepted = 0, 0
        for claim, certificate in right_pairs():
            for other in bent(certificate):
                told = accepts(claim, other)
                self.assertIs(told, is_certificate(claim, other), (claim, other))
                looked, accepted = looked + 1, accepted + told
            for other in bent(claim):
                told = accepts(other, certificate)
                self.assertIs(told, is_certificate(other, certificate), (other, certificate))
                looked, accepted = looked + 1, accepted + told
        self.assertGreater(looked, 5000)
        self.assertGreater(accepted, 100)

    def test_words_in_the_place_of_others(self):
        for claim, certificate in right_pairs():
            for word in list(PIECES) + ["", "Sound", "sound ", "none", b"sound", None, 0, [], ("sound",), HALF]:
                for other in ((word,) + claim[1:], (word,) + claim[1:] + ((0, 1),), (word,) + claim[1:-1], (word,)):
                    self.assertIs(accepts(other, certificate), is_certificate(other, certificate), (other, certificate))

    def test_certificates_of_other_claims(self):
        every = list(right_pairs())
        for claim, _ in every:
            for _, certificate in every:
                self.assertIs(accepts(claim, certificate), is_certificate(claim, certificate), (claim, certificate))

    def test_any_values(self):
        values = ODD_VALUES + ((), ((),), ((), ()), (None,) * 3, ("sound",), ("sound", None), ("sound", "2:", ()),
                               ([], "2:"), ({}, "2:"), (("sound",), "2:"), ("least", "2:", (0, 0), (0, 1)),
                               ("walk", (), (), 0, 0, (0, 1)), ("gathers", ()), ((((((1,),),),),),), "sound", -1,
                               (True, False), ((True, 1), (0, 1)), ((1, 1), (False, 1)), ([1, 1], (0, 1)))
        for claim in values:
            for certificate in values:
                self.check_both_ways(is_certificate(claim, certificate), accepts, "claim certificate", claim,
                                     certificate)
        for claim, certificate in right_pairs():
            for value in values:
                self.assertIs(accepts(claim, value), is_certificate(claim, value), (claim, value))
                self.assertIs(accepts(value, certificate), is_certificate(value, certificate), (value, certificate))
                for at in range(len(claim)):
                    other = claim[:at] + (value,) + claim[at + 1:]
                    self.assertIs(accepts(other, certificate), is_certificate(other, certificate), other)

    def test_deep_values(self):
        deep = ()
        for _ in range(18):
            deep = (deep,)
        for claim, certificate in right_pairs():
            self.assertIs(accepts(claim, deep), False)
            self.assertIs(accepts(claim[:1] + (deep,) + claim[2:], certificate), False)
            self.assertIs(accepts(deep, deep), False)


class Drawn(Told, unittest.TestCase):
    def test_drawn_certificates(self):
        # Chances and sales by chance are accepted just where they do.
        rng, accepted = random.Random(351), {}
        for _ in range(1500):
            outcomes, many = rng.randint(2, 3), rng.randint(0, 2)
            book = rng.choice((sound_book, any_book))(rng, outcomes, many, 2)
            corners = corners_by_hand(book)
            chance = pairs(rng.choice(corners) if corners and rng.random() < 0.7 else random_chance(rng, outcomes, 2))
            sale = tuple(pair(Fraction(rng.randint(0, 4), rng.randint(1, 2))) for _ in range(many))
            payoff = rng.choice([random_payoff(rng, outcomes, 2)] + [payoff for payoff, _ in book.quotes])
            worth = pair(worth_by_hand(payoff, [Fraction(*part) for part in chance]))
            acts = tuple(random_payoff(rng, outcomes, 2) for _ in range(rng.randint(1, 3)))
            act, mix = rng.randrange(len(acts)), pairs(random_chance(rng, len(acts), 2))
            number = rng.choice((worth, pair(Fraction(rng.randint(-4, 4), rng.randint(1, 3)))))
            lot, text = rng.choice(lots_of(outcomes)), str(book)
            for claim, certificate in (
                    (("sound", text), chance), (("loses", text), sale),
                    (("least", text, payoff, number), (chance, sale)),
                    (("most", text, payoff, number), (chance, sale)),
                    (("follows", text, payoff, number), sale),
                    (("free", text, payoff, number), chance), (("good", text, acts, act), chance),
                    (("poor", text, acts, act), (chance, mix, sale)),
                    (("behind", text, lot, payoff, number), (chance, sale))):
                told = accepts(claim, certificate)
                self.assertIs(told, is_certificate(claim, certificate), (claim, certificate))
                accepted[claim[0], told] = accepted.get((claim[0], told), 0) + 1
        for word in ("sound", "loses", "least", "most", "follows", "free", "good", "poor", "behind"):
            self.assertGreater(min(accepted.get((word, True), 0), accepted.get((word, False), 0)), 9, word)

    def test_drawn_questions_and_walks(self):
        rng, accepted = random.Random(352), {}
        for _ in range(450):
            outcomes = rng.randint(2, 4)
            book, payoff = sound_book(rng, outcomes, rng.randint(0, 2), 2), random_payoff(rng, outcomes, 3)
            split = rng.sample(range(outcomes), outcomes)
            at = rng.randint(1, outcomes - 1)
            question = tuple(sorted(split[:at])), tuple(sorted(split[at:]))
            if outcomes == 4 and rng.random() < 0.6:
                # Two coins that are thrown side by side, or hang together somehow.
                one, two = (Fraction(rng.randint(1, 3), 4) for _ in range(2))
                book = coins_book(one, two, rng.randint(0, 1))
                payoff, question = (2, 2, -1, -1), rng.choice((((0, 2), (1, 3)), ((0, 3), (1, 2)), ((0, 1), (2, 3))))
            claims = [(word, str(book), question, payoff) for word in ("widens", "steady")]
            walk = tuple(str(sound_book(rng, outcomes, 1, 2)) for _ in range(outcomes))
            number = pair(Fraction(rng.randint(-3, 3), rng.randint(1, 2)))
            claims.append(("walk", walk, payoff, rng.randint(0, 2), rng.randrange(outcomes), number))
            for claim in claims:
                told = accepts(claim, ())
                self.assertIs(told, is_certificate(claim, ()), claim)
                accepted[claim[0], told] = accepted.get((claim[0], told), 0) + 1
        for word in ("widens", "steady", "walk"):
            self.assertGreater(min(accepted.get((word, True), 0), accepted.get((word, False), 0)), 4, word)

    def test_drawn_bounds(self):
        rng, accepted = random.Random(353), {}
        for _ in range(400):
            outcomes = rng.randint(2, 3)
            lots = lots_of(outcomes)
            top = rng.choice((2, 4, BIG))
            numbers = {(): Fraction(0), lots[-1]: Fraction(1)}
            for lot in sorted(lots[1:-1], key=len):
                low = max(numbers[tuple(one for one in lot if one != at)] for at in lot)
                numbers[lot] = max(low, Fraction(rng.randint(0, 2), top), rng.choice((0, low * 2, low)))
                numbers[lot] = min(Fraction(1), numbers[lot])
            bounds = pairs(numbers[lot] for lot in lots)
            parts = {lot: sum(numbers[part] * (-1) ** (len(lot) - len(part)) for part in lots if set(part) <= set(lot))
                     for lot in lots[1:]}
            masses = tuple(sorted((lot, pair(number)) for lot, number in parts.items() if number != 0))
            for claim, certificate in ((("gathers", bounds), ()), (("masses", bounds), masses),
                                       (("scatters", bounds), (rng.choice(lots), rng.choice(lots)))):
                told = accepts(claim, certificate)
                self.assertIs(told, is_certificate(claim, certificate), (claim, certificate))
                accepted[claim[0], told] = accepted.get((claim[0], told), 0) + 1
        for word in ("gathers", "masses", "scatters"):
            self.assertGreater(min(accepted.get((word, True), 0), accepted.get((word, False), 0)), 9, word)

    def test_points(self):
        rng = random.Random(354)
        for outcomes in (2, 3, 4, 5, 6):
            chance = random_chance(rng, outcomes, 3)
            book = point_book(chance)
            self.assertTrue(accepts(("sound", str(book)), pairs(chance)))
            if outcomes < 6:
                nearly = list(chance)
                step = Fraction(1, BIG)
                at = nearly.index(max(nearly))
                nearly[at] -= step
                nearly[at - 1] += step
                self.assertFalse(accepts(("sound", str(book)), pairs(nearly)))


if __name__ == "__main__":
    unittest.main()
