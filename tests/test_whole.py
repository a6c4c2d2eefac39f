"""What one part tells and what another one tells of the same book is the same."""

import copy
import importlib
import inspect
import random
import unittest
from fractions import Fraction

from softchances.acts import best_mix, chance_for_act, good_acts, open_acts, safe_acts, unbeaten_acts
from softchances.books import Book, chance_for, is_sound, keeps, losing_sale, row_of, worth
from softchances.bounds import (book_of, bounds_of, gathers, is_tight_bounds, level_worth, numbers_of, order_chances,
                                scattering, tightened)
from softchances.certificates import (certify_act, certify_behind, certify_book, certify_bounds, certify_least,
                                      certify_masses, certify_most, certify_quote, certify_walk)
from softchances.checker import accepts
from softchances.console import Console
from softchances.corners import corners, is_corner
from softchances.desks import Desk
from softchances.errors import Broken, Never, NoAnswer, WrongName, WrongValue
from softchances.ever import greatest_ever, least_ever
from softchances.losses import cheapest_mend, culprits, least_cost, losing_mix, loss
from softchances.masses import beliefs, masses_of, sure_worth
from softchances.news import chances_behind, greatest_behind, least_behind, widens
from softchances.shapes import range_bounds, stirred_bounds
from softchances.shelves import Shelf
from softchances.sources import both, do_meet, greatest_but_one, least_between, least_but_one
from softchances.tellers import greatest_told, least_told
from softchances.tight import are_alike, follows, is_needless, is_tight, is_within, needless, tight_prices
from softchances.walks import greatest_after, greatest_meet, least_after, least_meet
from softchances.worths import end_chance, greatest_chance, greatest_worth, hedge, least_chance, least_worth
from tests.test_language import INTERFACE
from tests.tools import (BAD, BAD3, BAD6, HALF, MORE, RAIN, SIX, Told, any_book, frac, fracs, keeps_by_hand, lots_of,
                         never_books, pair, pairs, point_book, random_chance, random_payoff, row_by_hand, sound_book,
                         worth_by_hand)


def let(fraction):
    """Whether this fraction may be passed."""
    return abs(fraction[0]) <= 10 ** 9 and fraction[1] <= 10 ** 6


def all_let(value):
    """Whether all fractions of nested tuples may be passed."""
    if len(value) == 2 and all(type(part) is int for part in value):
        return let(value)
    return all(all_let(part) for part in value)


def books(seed, most_outcomes=6):
    """Books of many kinds, sound and not."""
    rng = random.Random(seed)
    yield from (RAIN, HALF, MORE, BAD, BAD3)
    if most_outcomes == 6:
        yield from (SIX, BAD6)
    for outcomes in range(2, most_outcomes + 1):
        for many in (0, 1, 2, 4, 8):
            yield sound_book(rng, outcomes, many)
            yield any_book(rng, outcomes, many)
        yield point_book(random_chance(rng, outcomes, 3))
    yield from never_books(seed, min(most_outcomes, 5))


def sound_books(seed, most_outcomes=6):
    """Those of them that are sound."""
    return [book for book in books(seed, most_outcomes) if is_sound(book)]


class Sides(Told, unittest.TestCase):
    def test_sound_or_not(self):
        sides = set()
        for book in books(391):
            told, console, desk, shelf = is_sound(book), Console(book), Desk(book), Shelf()
            sides.add(told)
            shelf["book"] = book
            self.assertIs(chance_for(book) is not None, told)
            self.assertIs(losing_sale(book) is None, told)
            self.assertIs(loss(book) == (0, 1), told)
            self.assertIs(least_cost(book) == (0, 1), told)
            self.assertIs(losing_mix(book) is None, told)
            self.assertIs(desk.is_sound, told)
            self.assertEqual(console.say("sound"), "yes" if told else "no")
            self.assertEqual(certify_book(book)[0], ("sound" if told else "loses", str(book)))
            self.assertIs(do_meet(book, Book(book.outcomes, ())), told)
            self.assertIs(do_meet(book, book), told)
            for wish in (("sound", "book"), ("meet", "book", "book"), ("within", "book", "book")):
                if told:
                    shelf.wish(wish)
                else:
                    self.check_error(Broken, {"index": 0}, shelf.wish, wish)
            self.check_error(Broken, {"index": len(shelf.wishes)}, shelf.wish, ("apart", "book", "book"))
            if told:
                self.assertTrue(keeps_by_hand(book, fracs(chance_for(book))))
            else:
                self.assertLess(max(row_by_hand(book, fracs(losing_sale(book)))), 0)
                for call in (certify_book, lambda some: (("loses", str(some)), losing_mix(some))):
                    self.assertTrue(accepts(*call(book)))
        self.assertEqual(sides, {True, False})

    def test_mended_books_are_sound(self):
        for book in books(392, 4):
            mend = cheapest_mend(book)
            prices = [pair(frac(price) - frac(number)) for (_, price), number in zip(book.quotes, mend)]
            if any(bottom > 1000 or abs(top) > 10 ** 6 for top, bottom in prices):
                continue
            desk = Desk(book)
            for at, price in enumerate(prices):
                desk.raise_to(at, price)
            self.assertTrue(desk.is_sound)
            self.assertEqual(desk.changes, len(prices))

    def test_culprits(self):
        for book in books(393, 4):
            if is_sound(book):
                continue
            desk = Desk(book)
            found = tuple(at for at in range(len(book.quotes))
                          if desk.tried(lambda held: (held.drop(at), held.is_sound)[1]))
            self.assertEqual(culprits(book), found)
            self.assertEqual(Console(book).say("needless"), "NotSound")


class Ends(Told, unittest.TestCase):
    def test_all_ways_to_a_worth(self):
        rng = random.Random(394)
        for book in sound_books(394):
            payoff = random_payoff(rng, book.outcomes, rng.choice((3, 1000)))
            least, greatest = least_worth(book, payoff), greatest_worth(book, payoff)
            text = ",".join(map(str, payoff))
            console, desk = Console(book), Desk(book)
            self.assertEqual(console.say(f"least {text}"), f"{least[0]}/{least[1]}")
            self.assertEqual(console.say(f"most {text}"), f"{greatest[0]}/{greatest[1]}")
            self.assertEqual((desk.least(payoff), desk.greatest(payoff)), (least, greatest))
            self.assertEqual(certify_least(book, payoff)[0][3], least)
            self.assertEqual(certify_most(book, payoff)[0][3], greatest)
            self.assertEqual(worth_by_hand(payoff, fracs(end_chance(book, payoff))), frac(least))
            certificate = end_chance(book, payoff), hedge(book, payoff)
            self.assertTrue(accepts(("least", str(book), payoff, least), certificate))
            if book.outcomes < 6:
                worths = [worth_by_hand(payoff, fracs(corner)) for corner in corners(book)]
                self.assertEqual((pair(min(worths)), pair(max(worths))), (least, greatest))
                everything = tuple(range(book.outcomes))
                self.assertEqual(least_behind(book, everything, payoff), least)
                self.assertEqual(greatest_behind(book, everything, payoff), greatest)
            self.assertEqual(least_between(book, book, payoff), least)
            self.assertLessEqual(frac(least_but_one(book, payoff)), frac(least))
            self.assertGreaterEqual(frac(greatest_but_one(book, payoff)), frac(greatest))
            self.assertEqual(best_mix(book, (payoff,)), (least, ((1, 1),)))

    def test_wishes_just_hold(self):
        rng, many = random.Random(395), 0
        for book in sound_books(395):
            shelf = Shelf()
            shelf["book"] = book
            for _ in range(4):
                payoff = random_payoff(rng, book.outcomes)
                least, greatest = least_worth(book, payoff), greatest_worth(book, payoff)
                if not let(least) or not let(greatest):
                    continue
                many += 1
                shelf.wish(("least", "book", payoff, least))
                shelf.wish(("most", "book", payoff, greatest))
                step = Fraction(1, 10 ** 6 // (least[1] * greatest[1])) if least[1] * greatest[1] <= 10 ** 6 else 1
                for wish in (("least", "book", payoff, pair(frac(least) + step)),
                             ("most", "book", payoff, pair(frac(greatest) - step))):
                    if let(wish[3]):
                        self.check_error(Broken, {"index": len(shelf.wishes)}, shelf.wish, wish)
            # A book with the same set may stand in its place, one with a greater set may not.
            shelf["book"] = Book(book.outcomes, book.quotes[::-1])
            self.assertEqual(shelf.changes, 2 + len(shelf.wishes))
        self.assertGreater(many, 100)

    def test_what_follows(self):
        rng, seen = random.Random(396), set()
        for book in sound_books(396):
            for _ in range(3):
                payoff = random_payoff(rng, book.outcomes, 3)
                price = pair(Fraction((frac(least_worth(book, payoff)) * 12).__floor__() + rng.randint(-1, 1), 12))
                told, single = follows(book, payoff, price), Book(book.outcomes, ((payoff, price),))
                seen.add(told)
                self.assertIs(frac(least_worth(book, payoff)) >= frac(price), told)
                if is_sound(single):
                    self.assertIs(is_within(book, single), told)
                self.assertEqual(certify_quote(book, payoff, price)[0][0], "follows" if told else "free")
                shelf = Shelf()
                shelf["book"], shelf["single"] = book, single
                if told:
                    shelf.wish(("within", "book", "single"))
                else:
                    self.check_error(Broken, {"index": 0}, shelf.wish, ("within", "book", "single"))
                if len(book.quotes) < 32:
                    more = book.with_quote(payoff, price)
                    self.assertEqual(more, both(book, single))
                    self.assertIs(is_sound(more), do_meet(book, single))
                    if is_sound(more):
                        self.assertIs(is_needless(more, len(book.quotes)), told)
                        self.assertIs(are_alike(book, more), told)
                        self.assertEqual(Console(more).say("needless"), " ".join(map(str, needless(more))) or "none")
        self.assertEqual(seen, {True, False})

    def test_tightened_books(self):
        for book in sound_books(397):
            desk, console = Desk(book), Console(book)
            prices = tight_prices(book)
            if any(bottom > 1000 for _, bottom in prices):
                self.assertEqual(console.say("tighten"), "TooGreat")
                continue
            desk.tighten()
            self.assertEqual([console.say("tighten"), console.say("book")], ["ok", str(desk.book)])
            self.assertEqual(tuple(price for _, price in desk.book.quotes), prices)
            self.assertTrue(are_alike(book, desk.book))
            self.assertTrue(all(is_tight(desk.book, at) for at in range(len(prices))))


class Lots(Told, unittest.TestCase):
    def test_chances_of_lots(self):
        for book in sound_books(398, 5):
            low, console = bounds_of(book), Console(book)
            for place, lot in enumerate(lots_of(book.outcomes)):
                rest = low[len(low) - 1 - place]
                least, greatest = low[place], pair(1 - frac(rest))
                self.assertEqual((least_chance(book, lot), greatest_chance(book, lot)), (least, greatest))
                if lot:
                    text = ",".join(map(str, lot))
                    self.assertEqual(console.say(f"chance {text}"),
                                     f"{least[0]}/{least[1]} {greatest[0]}/{greatest[1]}")
                chances = [sum(fracs(corner)[at] for at in lot) for corner in corners(book)]
                self.assertEqual((pair(min(chances)), pair(max(chances))), (least, greatest))

    def test_bounds_masses_and_worths(self):
        rng, kinds = random.Random(399), {}
        found = [bounds_of(book) for book in sound_books(399, 5)]
        for _ in range(40):
            outcomes = rng.randint(2, 5)
            found.append(stirred_bounds(pairs(random_chance(rng, outcomes)), pair(Fraction(rng.randint(0, 6), 6))))
            ranges = tuple(((0, 1), pair(Fraction(rng.randint(2, 6), 6))) for _ in range(outcomes))
            if sum(map(frac, (high for _, high in ranges))) >= 1:
                found.append(range_bounds(ranges))
            # The least chances of a few chances seldom gather.
            some = [[rng.randint(0, 3) for _ in range(outcomes)] for _ in range(3)]
            some = [[Fraction(number, sum(numbers) + 1) for number in numbers] for numbers in some]
            some = [[1 - sum(numbers[1:])] + numbers[1:] for numbers in some]
            found.append(tuple(pair(min(sum((chance[at] for at in lot), Fraction(0)) for chance in some))
                               for lot in lots_of(outcomes)))
        for low in found:
            if not all_let(low) or any(bottom > 1000 for _, bottom in low):
                continue
            outcomes, book = len(low).bit_length() - 1, book_of(low)
            self.assertTrue(is_sound(book) and is_tight_bounds(low), low)
            self.assertEqual((bounds_of(book), tightened(low)), (low, low))
            masses, payoff = masses_of(low), random_payoff(rng, outcomes, 9)
            kinds[gathers(low), masses is not None] = kinds.get((gathers(low), masses is not None), 0) + 1
            self.assertEqual((masses is not None, scattering(low) is None),
                             (min(map(frac, numbers_of(low))) >= 0, gathers(low)))
            self.assertEqual(certify_bounds(low)[0][0], "gathers" if gathers(low) else "scatters")
            if gathers(low):
                self.assertEqual(level_worth(low, payoff), least_worth(book, payoff))
                self.assertEqual(order_chances(low), corners(book))
            else:
                self.assertLessEqual(frac(level_worth(low, payoff)), frac(least_worth(book, payoff)))
            if masses is not None:
                self.assertTrue(gathers(low))
                self.assertEqual(certify_masses(low), (("masses", low), masses))
                if all_let(tuple(number for _, number in masses)):
                    self.assertEqual(beliefs(outcomes, masses), low)
                    self.assertEqual(sure_worth(outcomes, masses, payoff), least_worth(book, payoff))
        for kind in ((True, True), (True, False), (False, False)):
            self.assertGreater(kinds.get(kind, 0), 1, kind)

    def test_news(self):
        rng = random.Random(400)
        for book in sound_books(400, 5):
            console, payoff = Console(book), random_payoff(rng, book.outcomes)
            text = ",".join(map(str, payoff))
            for lot in lots_of(book.outcomes)[1:]:
                line = f"behind {','.join(map(str, lot))} {text}"
                if greatest_chance(book, lot) == (0, 1):
                    self.assertEqual(console.say(line), "Never")
                    self.check_error(Never, {}, certify_behind, book, lot, payoff)
                    continue
                least, greatest = least_behind(book, lot, payoff), greatest_behind(book, lot, payoff)
                self.assertEqual(console.say(line), f"{least[0]}/{least[1]} {greatest[0]}/{greatest[1]}")
                worths = [worth_by_hand(payoff, fracs(chance)) for chance in chances_behind(book, lot)]
                self.assertEqual((pair(min(worths)), pair(max(worths))), (least, greatest))
                self.assertEqual(certify_behind(book, lot, payoff)[0][4], least)
                # Whoever says each of two sayings that have nothing in common tells just the news.
                rest = tuple(at for at in range(book.outcomes) if at not in lot)
                if rest:
                    self.assertEqual(least_told(book, (lot, rest), 0, payoff), least)
                    self.assertEqual(greatest_told(book, (lot, rest), 0, payoff), greatest)
                # A desk that takes the news as sure keeps what is left of the set within the lot.
                if least_chance(book, lot) == (1, 1) and len(book.quotes) < 32:
                    desk = Desk(book)
                    desk.news(lot)
                    self.assertEqual((desk.least(payoff), desk.greatest(payoff)), (least, greatest))


class Choices(Told, unittest.TestCase):
    def test_acts(self):
        rng = random.Random(401)
        for book in sound_books(401):
            acts = tuple(random_payoff(rng, book.outcomes, 3) for _ in range(rng.randint(1, 5)))
            good, open_ones = good_acts(book, acts), open_acts(book, acts)
            unbeaten, safe = unbeaten_acts(book, acts), safe_acts(book, acts)
            self.assertTrue(set(good) | set(safe) <= set(unbeaten) <= set(open_ones))
            self.assertTrue(good and safe)
            for act in range(len(acts)):
                claim, certificate = certify_act(book, acts, act)
                self.assertEqual(claim[0], "good" if act in good else "poor")
                chance = chance_for_act(book, acts, act)
                self.assertIs(chance is not None, act in good)
                if act in good:
                    self.assertTrue(accepts(claim, chance))
            top = max(frac(least_worth(book, payoff)) for payoff in acts)
            self.assertGreaterEqual(frac(best_mix(book, acts)[0]), top)

    def test_walks(self):
        rng = random.Random(402)
        for places in (2, 3, 4):
            for _ in range(6):
                walk = tuple(sound_book(rng, places, rng.randint(0, 4)) for _ in range(places))
                payoff, lot = random_payoff(rng, places), rng.choice(lots_of(places))
                self.assertEqual(least_after(walk, payoff, 1), tuple(least_worth(book, payoff) for book in walk))
                self.assertEqual(greatest_after(walk, payoff, 1), tuple(Desk(book).greatest(payoff) for book in walk))
                for index, number in enumerate(least_after(walk, payoff, 3)):
                    self.assertEqual(certify_walk(walk, payoff, 3, index)[0][5], number)
                for meet, ever in ((least_meet, least_ever), (greatest_meet, greatest_ever)):
                    for one, two in zip(meet(walk, lot, 20), ever(walk, lot)):
                        self.assertLessEqual(frac(one), frac(two))

    def test_texts(self):
        for book in books(403):
            self.assertEqual((Book.read(str(book)), Console(book).say("book")), (book, str(book)))
            self.assertEqual(str(Book.read(str(book))), str(book))
            desk = Desk(Book(book.outcomes, ()))
            for payoff, price in book.quotes:
                desk.quote(payoff, price)
            self.assertEqual(str(desk.book), str(book))


def values_for(rng, book, other):
    """A right value for each name of a parameter, for a book with two to four outcomes and a quote at least."""
    many, outcomes = len(book.quotes), book.outcomes
    lots = lots_of(outcomes)
    masses = tuple(sorted({rng.choice(lots[1:]) for _ in range(2)}))
    shares = {1: ((1, 1),), 2: ((1, 3), (2, 3))}[len(masses)]
    chance = pairs(random_chance(rng, outcomes))
    sale = tuple((rng.randint(0, 3), 1) for _ in range(many))
    question = rng.choice([tuple((at,) for at in range(outcomes)), (lots[1], lots[-2])])
    return {
        "book": book, "other": other, "payoff": random_payoff(rng, outcomes), "chance": chance, "sale": sale,
        "lot": rng.choice(lots[1:]), "index": 0, "price": pair(Fraction(rng.randint(-9, 9), 6)), "share": (1, 3),
        "bounds": stirred_bounds(chance, (1, 2)), "order": tuple(rng.sample(range(outcomes), outcomes)),
        "outcomes": outcomes, "masses": tuple(zip(masses, shares)), "others": ((lots[-1], (1, 1)),),
        "ranges": (((0, 1), (1, 1)),) * outcomes, "beginnings": (((1, 4), (1, 2)),) * (outcomes - 1),
        "question": question, "sayings": (lots[-1], lots[1]), "saying": 0, "act": 0,
        "acts": tuple(random_payoff(rng, outcomes) for _ in range(3)), "walk": (other,) * outcomes,
        "steps": rng.randint(0, 4), "claim": ("free", str(other), (1,) * outcomes, (2, 1)),
        "certificate": chance_for(other)}


def told_by(call, *args, **named):
    """What a call tells, or its error with all that this keeps."""
    try:
        return call(*args, **named)
    except (WrongValue, WrongName, NoAnswer) as error:
        return type(error), vars(error)


def plain(value):
    """Whether there is nothing but integers, truths, strings, None, books and tuples of these."""
    if type(value) is tuple:
        return all(map(plain, value))
    return value is None or type(value) in (int, bool, str, Book)


def without_truths(value):
    """Whether no truth stands within a tuple."""
    return type(value) is not tuple or all(type(part) is not bool and without_truths(part) for part in value)


class Everything(Told, unittest.TestCase):
    def test_each_function(self):
        rng, errors = random.Random(404), set()
        for turn in range(40):
            outcomes = rng.randint(2, 4)
            other = sound_book(rng, outcomes, rng.randint(0, 3))
            book = rng.choice((sound_book, sound_book, any_book))(rng, outcomes, rng.randint(1, 4))
            values = values_for(rng, book, other)
            kept, before = copy.deepcopy(values), repr(values) + str(book) + str(other)
            for module, listed in INTERFACE.items():
                for name, names in listed.items():
                    call = getattr(importlib.import_module(f"softchances.{module}"), name)
                    self.assertEqual((call.__module__, call.__name__), (f"softchances.{module}", name))
                    self.assertEqual(list(inspect.signature(call).parameters), names.split())
                    args = [values[what] for what in names.split()]
                    told = told_by(call, *args)
                    self.assertEqual(told_by(call, **{what: values[what] for what in names.split()}), told, name)
                    self.assertEqual(told_by(call, *[kept[what] for what in names.split()]), told, name)
                    if type(told) is tuple and told and type(told[0]) is type:
                        errors.add(told[0].__name__)
                        continue
                    self.assertTrue(plain(told) and without_truths(told), (name, told))
            self.assertEqual(repr(values) + str(book) + str(other), before)
        self.assertLessEqual(errors, {"NotSound", "Never", "TotalClash", "TooGreat", "InvalidFraction"})

    def test_books_never_change(self):
        for book in books(405, 4):
            text, quotes, parts = str(book), book.quotes, dict(vars(book))
            desk, console, shelf = Desk(book), Console(book), Shelf()
            desk.quote((0,) * book.outcomes, (-1, 1))
            desk.drop(0)
            console.say("quote " + ",".join("0" * book.outcomes) + " -1/1")
            console.say("drop 0")
            shelf["a"] = book
            shelf["a"] = Book(2, ())
            self.assertEqual((str(book), book.quotes, vars(book)), (text, quotes, parts))

    def test_corners_are_kept(self):
        for book in sound_books(406, 4):
            for corner in corners(book):
                if all_let(corner):
                    self.assertTrue(keeps(book, corner) and is_corner(book, corner))
                    self.assertTrue(accepts(("sound", str(book)), corner))
                    payoff = tuple(range(book.outcomes))
                    self.assertEqual(worth(payoff, corner), pair(worth_by_hand(payoff, fracs(corner))))
            sale = ((1, 1),) * len(book.quotes)
            self.assertEqual(row_of(book, sale), pairs(row_by_hand(book, fracs(sale))))

    def test_questions(self):
        for book in sound_books(407, 4):
            lots = ((0,), tuple(range(1, book.outcomes)))
            payoff = tuple(range(book.outcomes))
            told = widens(book, lots, payoff)
            for word, right in (("widens", told), ("steady", not told)):
                self.assertIs(accepts((word, str(book), lots, payoff), ()), right)


if __name__ == "__main__":
    unittest.main()
