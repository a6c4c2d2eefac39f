"""The same said in other words has the same answers, told in these words."""

import random
import unittest
from fractions import Fraction

from softchances.acts import (beating_mix, best_mix, chance_for_act, good_acts, open_acts, safe_acts, unbeaten_acts)
from softchances.books import Book, chance_for, is_sound, keeps, losing_sale, row_of, worth
from softchances.bounds import (bounds_of, gathers, is_kept, is_tight_bounds, level_worth, numbers_of, order_chances,
                                scattering, tightened)
from softchances.corners import corners, is_corner, mean_corner
from softchances.losses import cheapest_mend, culprits, least_cost, losing_mix, loss
from softchances.news import chances_behind, greatest_behind, least_behind, least_by_question, widens
from softchances.tight import (are_alike, follows, is_needless, is_tight, is_within, least_quotes, needless,
                               parting_chance, tight_prices)
from softchances.worths import (end_chance, greatest_chance, greatest_worth, hedge, least_chance, least_worth)
from tests.tools import (BAD, BAD3, HALF, MORE, RAIN, any_book, frac, fracs, keeps_by_hand, lots_of, never_books,
                         pair, pairs, random_chance, random_payoff, row_by_hand, sound_book, worth_by_hand)


class Words:
    """Another order of the outcomes and the quotes, payoffs so many times as great, or shifted, or quotes twice."""

    def __init__(self, outcomes, quotes, order=None, places=None, factor=1, shift=0, twice=False):
        self.order = order or list(range(outcomes))
        self.places = places or list(range(quotes))
        if twice:
            self.places = self.places + self.places
        self.twice, self.factor, self.shift = twice, factor, shift

    def turned(self, row):
        """A row with a number for each outcome."""
        return tuple(row[at] for at in self.order)

    def payoff(self, payoff):
        """The payoff in these words."""
        return self.turned(tuple(number * self.factor + self.shift for number in payoff))

    def worth(self, number):
        """What the worth of a payoff is in these words."""
        return pair(frac(number) * self.factor + self.shift)

    def book(self, book):
        """The book in these words."""
        quotes = [(self.payoff(payoff), self.worth(price)) for payoff, price in book.quotes]
        return Book(book.outcomes, tuple(quotes[at] for at in self.places))

    def lot(self, lot):
        """The lot in these words."""
        return tuple(sorted(self.order.index(outcome) for outcome in lot))

    def by_lots(self, bounds):
        """Numbers for all lots in these words."""
        lots = lots_of(len(self.order))
        told = dict(zip(map(self.lot, lots), bounds))
        return tuple(told[lot] for lot in lots)

    def chances(self, chances):
        """An ascending tuple of chances in these words."""
        return tuple(sorted(map(self.turned, chances), key=lambda chance: [Fraction(*part) for part in chance]))

    def indexes(self, indexes):
        """An ascending tuple of indexes of quotes in these words, each quote said once."""
        return tuple(sorted(self.places.index(index) for index in indexes))


def all_words(rng, outcomes, quotes):
    """The same said in several other ways."""
    yield Words(outcomes, quotes, order=rng.sample(range(outcomes), outcomes))
    yield Words(outcomes, quotes, places=rng.sample(range(quotes), quotes))
    yield Words(outcomes, quotes, factor=2)
    yield Words(outcomes, quotes, shift=rng.choice((-7, 1, 100)))
    yield Words(outcomes, quotes, twice=True)
    yield Words(outcomes, quotes, rng.sample(range(outcomes), outcomes), rng.sample(range(quotes), quotes), 3, -5, True)


def told_books(seed, most_quotes=7):
    """Sound books."""
    rng = random.Random(seed)
    yield from (RAIN, HALF, MORE)
    for outcomes in range(2, 6):
        for many in (0, 1, 3, most_quotes):
            yield sound_book(rng, outcomes, many)
    yield from never_books(seed)


def cases(seed, books=None, most_quotes=7):
    """Books, ways to say them, and what is said then."""
    rng = random.Random(seed)
    for book in books or told_books(seed, most_quotes):
        for words in all_words(rng, book.outcomes, len(book.quotes)):
            yield rng, book, words, words.book(book)


def bad_books(seed):
    """Books, most of them not sound."""
    rng = random.Random(seed)
    return [BAD, BAD3] + [any_book(rng, outcomes, many) for outcomes in range(2, 7) for many in (1, 2, 4, 8)]


class Books(unittest.TestCase):
    def test_books(self):
        for rng, book, words, other in cases(201, list(told_books(201)) + bad_books(201)):
            self.assertIs(is_sound(other), is_sound(book))
            self.assertIs(chance_for(other) is None, chance_for(book) is None)
            self.assertIs(losing_sale(other) is None, losing_sale(book) is None)
            if is_sound(book):
                self.assertTrue(keeps_by_hand(other, fracs(chance_for(other))))
            else:
                self.assertLess(max(row_by_hand(other, fracs(losing_sale(other)))), 0)
            for _ in range(3):
                chance, payoff = pairs(random_chance(rng, book.outcomes)), random_payoff(rng, book.outcomes)
                self.assertIs(keeps(other, words.turned(chance)), keeps(book, chance))
                self.assertEqual(worth(words.payoff(payoff), words.turned(chance)), words.worth(worth(payoff, chance)))

    def test_rows(self):
        for rng, book, words, other in cases(202):
            sale = tuple((rng.randint(0, 9), 1) for _ in book.quotes)
            turned = tuple(sale[at] for at in words.places)
            factor = words.factor * (2 if words.twice else 1)
            row = pairs(factor * number for number in fracs(row_of(book, sale)))
            self.assertEqual(row_of(other, turned), words.turned(row))

    def test_worths(self):
        for rng, book, words, other in cases(203):
            payoff = random_payoff(rng, book.outcomes, 300)
            said = words.payoff(payoff)
            self.assertEqual(least_worth(other, said), words.worth(least_worth(book, payoff)))
            self.assertEqual(greatest_worth(other, said), words.worth(greatest_worth(book, payoff)))
            end = fracs(end_chance(other, said))
            self.assertTrue(keeps_by_hand(other, end))
            self.assertEqual(pair(worth_by_hand(said, end)), words.worth(least_worth(book, payoff)))
            left = [number - lost for number, lost in zip(said, row_by_hand(other, fracs(hedge(other, said))))]
            self.assertGreaterEqual(min(left), frac(words.worth(least_worth(book, payoff))))
            for lot in lots_of(book.outcomes):
                self.assertEqual(least_chance(other, words.lot(lot)), least_chance(book, lot))
                self.assertEqual(greatest_chance(other, words.lot(lot)), greatest_chance(book, lot))


class Sets(unittest.TestCase):
    def test_corners(self):
        for rng, book, words, other in cases(204):
            self.assertEqual(corners(other), words.chances(corners(book)))
            self.assertEqual(mean_corner(other), words.turned(mean_corner(book)))
            chance = pairs(random_chance(rng, book.outcomes))
            for some in corners(book)[:2] + (chance,):
                if max(bottom for _, bottom in some) <= 10 ** 6:
                    self.assertIs(is_corner(other, words.turned(some)), is_corner(book, some))

    def test_tight(self):
        for rng, book, words, other in cases(205):
            many = len(book.quotes)
            prices = [words.worth(price) for price in tight_prices(book)]
            self.assertEqual(tight_prices(other), tuple(prices[at] for at in words.places))
            for place, at in enumerate(words.places):
                self.assertIs(is_tight(other, place), is_tight(book, at))
                self.assertIs(is_needless(other, place), words.twice or is_needless(book, at))
            told = tuple(range(2 * many)) if words.twice else words.indexes(needless(book))
            self.assertEqual(needless(other), told)
            payoff, price = random_payoff(rng, book.outcomes, 50), pair(Fraction(rng.randint(-99, 99), 12))
            self.assertIs(follows(other, words.payoff(payoff), words.worth(price)), follows(book, payoff, price))

    def test_two_books(self):
        for rng, book, words, other in cases(206):
            third = sound_book(rng, book.outcomes, 2)
            for call in (is_within, are_alike):
                self.assertIs(call(other, Words(book.outcomes, 2, words.order).book(third)), call(book, third))
                self.assertIs(call(Words(book.outcomes, 2, words.order).book(third), other), call(third, book))
            same = Words(book.outcomes, len(book.quotes), words.order).book(book)
            self.assertTrue(are_alike(same, other) and is_within(same, other) and is_within(other, same))
            self.assertIsNone(parting_chance(same, other))

    def test_least_quotes(self):
        for _, book, words, other in cases(207, most_quotes=5):
            if len(other.quotes) > 10:
                continue
            picks = {tuple(sorted(words.places[place] for place in pick)) for pick in least_quotes(other)}
            self.assertEqual(picks, set(least_quotes(book)))
            if not words.twice:
                self.assertEqual(least_quotes(other), tuple(sorted(map(words.indexes, least_quotes(book)))))

    def test_bounds(self):
        for rng, book, words, other in cases(208):
            low = bounds_of(book)
            turned = words.by_lots(low)
            self.assertEqual(bounds_of(other), turned)
            if max(bottom for _, bottom in low) > 10 ** 6:
                continue
            for call in (is_kept, is_tight_bounds, gathers):
                self.assertIs(call(turned), call(low))
            self.assertIs(scattering(turned) is None, scattering(low) is None)
            self.assertEqual(tightened(turned), words.by_lots(tightened(low)))
            self.assertEqual(numbers_of(turned), words.by_lots(numbers_of(low)))
            if book.outcomes < 5:
                self.assertEqual(order_chances(turned), words.chances(order_chances(low)))
            payoff = random_payoff(rng, book.outcomes, 300)
            self.assertEqual(level_worth(turned, words.payoff(payoff)), words.worth(level_worth(low, payoff)))

    def test_news(self):
        for rng, book, words, other in cases(209):
            payoff = random_payoff(rng, book.outcomes, 300)
            said = words.payoff(payoff)
            for lot in lots_of(book.outcomes):
                if greatest_chance(book, lot) == (0, 1):
                    continue
                turned = words.lot(lot)
                self.assertEqual(least_behind(other, turned, said), words.worth(least_behind(book, lot, payoff)))
                self.assertEqual(greatest_behind(other, turned, said), words.worth(greatest_behind(book, lot, payoff)))
                self.assertEqual(chances_behind(other, turned), words.chances(chances_behind(book, lot)))
            lots = [(0,), tuple(range(1, book.outcomes))]
            turned = tuple(map(words.lot, lots[::-1]))
            self.assertIs(widens(other, turned, said), widens(book, tuple(lots), payoff))
            self.assertEqual(least_by_question(other, turned, said),
                             words.worth(least_by_question(book, tuple(lots), payoff)))


class Choices(unittest.TestCase):
    def test_acts(self):
        for rng, book, words, other in cases(210):
            acts = tuple(random_payoff(rng, book.outcomes, rng.choice((3, 300))) for _ in range(rng.randint(1, 8)))
            order = rng.sample(range(len(acts)), len(acts))
            said = tuple(words.payoff(acts[at]) for at in order)
            for call in (safe_acts, unbeaten_acts, good_acts, open_acts):
                self.assertEqual(sorted(order[at] for at in call(other, said)), list(call(book, acts)))
            self.assertEqual(best_mix(other, said)[0], words.worth(best_mix(book, acts)[0]))
            for place, at in enumerate(order):
                self.assertIs(chance_for_act(other, said, place) is None, chance_for_act(book, acts, at) is None)
                self.assertIs(beating_mix(other, said, place) is None, beating_mix(book, acts, at) is None)

    def test_losses(self):
        for _, book, words, other in cases(211, bad_books(211) + list(told_books(211))):
            self.assertEqual(frac(loss(other)), frac(loss(book)) * words.factor)
            factor = words.factor * (2 if words.twice else 1)
            self.assertEqual(frac(least_cost(other)), frac(least_cost(book)) * factor)
            self.assertEqual(sum(fracs(cheapest_mend(other))), frac(least_cost(other)))
            self.assertIs(losing_mix(other) is None, losing_mix(book) is None)
            self.assertEqual(culprits(other), () if words.twice else words.indexes(culprits(book)))


if __name__ == "__main__":
    unittest.main()
