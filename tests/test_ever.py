import random
import unittest
from fractions import Fraction
from itertools import product

from softchances.books import Book
from softchances.errors import InvalidLot, InvalidWalk
from softchances.ever import greatest_ever, least_ever, reaching_plan, shunning, shunning_plan
from softchances.walks import greatest_after, greatest_meet, least_after, least_meet, least_row
from tests.test_walks import NO_WALKS, PAIR, walks
from tests.tools import (RAIN, Told, corners_by_hand, fracs, given, indexed, keeps_by_hand, lots_of, no_lots, pair,
                         pairs, point_book, random_chance, random_payoff, sound_book, worth_by_hand)

CALLS = (least_ever, greatest_ever, shunning, reaching_plan, shunning_plan)
FREE = Book(2, ())


def solved(rows, right):
    """The numbers with which each row is worth what stands to its right; there is just one answer."""
    rows = [list(row) + [number] for row, number in zip(rows, right)]
    for at in range(len(rows)):
        place = next(place for place in range(at, len(rows)) if rows[place][at])
        rows[at], rows[place] = rows[place], rows[at]
        rows[at] = [number / rows[at][at] for number in rows[at]]
        for other in range(len(rows)):
            if other != at:
                rows[other] = [one - rows[other][at] * two for one, two in zip(rows[other], rows[at])]
    return [row[-1] for row in rows]


def kept_by_hand(plan, lot):
    """The chances ever to meet the lot if the plan, of plain numbers, is kept to."""
    places, reach = range(len(plan)), set(lot)
    while True:
        more = {at for at in places if any(plan[at][to] > 0 for to in reach)} | reach
        if more == reach:
            break
        reach = more
    inner = [at for at in places if at in reach and at not in lot]
    rows = [[int(at == to) - plan[at][to] for to in inner] for at in inner]
    told = dict(zip(inner, solved(rows, [sum((plan[at][to] for to in lot), Fraction(0)) for at in inner])))
    return tuple(Fraction(1) if at in lot else told.get(at, Fraction(0)) for at in places)


def only_to(places, chosen):
    """The book by which the next place is one of the chosen ones."""
    quotes = [(tuple(-int(to == at) for to in range(places)), (0, 1)) for at in range(places) if at not in chosen]
    return Book(places, tuple(quotes))


def narrow_walks(seed):
    """Walks with places that stay for ever, that leave surely, that reach some places alone."""
    rng = random.Random(seed)
    for places in (2, 3, 4):
        for _ in range(14):
            walk = []
            for at in range(places):
                kind = rng.randrange(5)
                chosen = rng.sample(range(places), rng.randint(1, places))
                if kind == 0:
                    walk.append(only_to(places, [at]))
                elif kind == 1:
                    walk.append(only_to(places, [to for to in range(places) if to != at]))
                elif kind == 2:
                    walk.append(only_to(places, chosen))
                else:
                    book = only_to(places, chosen)
                    numbers = [rng.randint(0, 3) if to in chosen else 0 for to in range(places)]
                    numbers[chosen[0]] += 1
                    for _ in range(rng.randint(1, 2)):
                        payoff = tuple(rng.randint(-3, 3) for _ in range(places))
                        worth = Fraction(sum(one * two for one, two in zip(payoff, numbers)), sum(numbers))
                        book = book.with_quote(payoff, pair(worth if kind == 3 else worth - Fraction(1, 4)))
                    walk.append(book)
            yield tuple(walk)


def some_walks(seed):
    """Walks of all kinds."""
    yield from walks(seed)
    yield from narrow_walks(seed)


def few_plans(corners, most=1500):
    """All plans of corners, None if there are too many."""
    count = 1
    for some in corners:
        count *= len(some)
    return list(product(*corners)) if count <= most else None


class ByHand(Told, unittest.TestCase):
    def check_ever(self, walk, lot, least, greatest, shunned):
        """All three, by place and by name."""
        self.check_both_ways(least, least_ever, "walk lot", walk, lot)
        self.check_both_ways(greatest, greatest_ever, "walk lot", walk, lot)
        self.check_both_ways(shunned, shunning, "walk lot", walk, lot)

    def test_two_places(self):
        self.check_ever(PAIR, (1,), ((1, 1), (1, 1)), ((1, 1), (1, 1)), ())
        self.check_ever(PAIR, (0,), ((1, 1), (1, 1)), ((1, 1), (1, 1)), ())
        self.check_ever((PAIR[0], FREE), (0,), ((1, 1), (0, 1)), ((1, 1), (1, 1)), (1,))
        self.check_ever((FREE, FREE), (1,), ((0, 1), (1, 1)), ((1, 1), (1, 1)), (0,))

    def test_a_place_that_stays(self):
        stays = only_to(3, [2])
        third = Book.read("3: 1,0,0>=1/3 0,1,0>=1/3 0,0,1>=1/3")
        self.check_ever((third, stays, stays), (1,), ((1, 2), (1, 1), (0, 1)), ((1, 2), (1, 1), (0, 1)), (2,))
        self.check_ever((RAIN, stays, stays), (1,), ((3, 8), (1, 1), (0, 1)), ((5, 8), (1, 1), (0, 1)), (2,))
        # To wait, and never to go, is not to meet; the greatest chance is that of going at last.
        waits = Book.read("3: 0,1,-1>=0/1")
        self.check_ever((waits, stays, stays), (1,), ((0, 1), (1, 1), (0, 1)), ((1, 1), (1, 1), (0, 1)), (0, 2))

    def test_round_and_round(self):
        # Two places that may send to one another for ever, or leave by chances of their own.
        one = Book.read("4: 0,0,2,-1>=0/1 -1,0,0,0>=0/1 0,0,-2,1>=0/1")
        two = Book.read("4: 0,0,1,-2>=0/1 0,-1,0,0>=0/1 0,0,-1,2>=0/1")
        walk = (one, two, only_to(4, [2]), only_to(4, [3]))
        self.check_ever(walk, (2,), ((0, 1), (0, 1), (1, 1), (0, 1)), ((2, 3), (2, 3), (1, 1), (0, 1)), (0, 1, 3))
        self.check_ever(walk, (3,), ((0, 1), (0, 1), (0, 1), (1, 1)), ((2, 3), (2, 3), (0, 1), (1, 1)), (0, 1, 2))
        self.check_ever(walk, (2, 3), ((0, 1), (0, 1), (1, 1), (1, 1)), ((1, 1),) * 4, (0, 1))

    def test_no_lot_and_all(self):
        for walk in ((FREE, FREE), PAIR, (RAIN,) * 3, (Book(4, ()),) * 4):
            every = tuple(range(len(walk)))
            self.check_ever(walk, (), ((0, 1),) * len(walk), ((0, 1),) * len(walk), every)
            self.check_ever(walk, every, ((1, 1),) * len(walk), ((1, 1),) * len(walk), ())

    def test_rarely(self):
        # A chance of one in a thousand at each step comes at last.
        rare = Book.read("3: 1,0,0>=499/500 0,1,0>=1/1000 0,0,1>=1/1000")
        stays = only_to(3, [2])
        self.check_ever((rare, stays, stays), (1,), ((1, 2), (1, 1), (0, 1)), ((1, 2), (1, 1), (0, 1)), (2,))
        self.check_ever((rare, stays, stays), (1, 2), ((1, 1),) * 3, ((1, 1),) * 3, ())


class AllPlans(Told, unittest.TestCase):
    def test_against_all_plans_of_corners(self):
        looked = 0
        for walk in some_walks(301):
            corners = [corners_by_hand(book) for book in walk]
            plans = few_plans(corners)
            if plans is None:
                continue
            looked += 1
            for lot in lots_of(len(walk)):
                kept = [kept_by_hand(plan, lot) for plan in plans]
                least, greatest = tuple(map(min, zip(*kept))), tuple(map(max, zip(*kept)))
                self.assertEqual(least_ever(walk, lot), pairs(least))
                self.assertEqual(greatest_ever(walk, lot), pairs(greatest))
                # One plan does it from all places at once.
                self.assertIn(least, kept)
                self.assertIn(greatest, kept)
        self.assertGreater(looked, 40)

    def test_plans(self):
        for walk in some_walks(302):
            for lot in lots_of(len(walk)):
                for call, ever in ((reaching_plan, greatest_ever), (shunning_plan, least_ever)):
                    plan = call(walk, lot)
                    self.assertEqual((type(plan), len(plan)), (tuple, len(walk)))
                    chances = [fracs(chance) for chance in plan]
                    for book, chance in zip(walk, chances):
                        self.assertTrue(keeps_by_hand(book, chance))
                    self.assertEqual(pairs(kept_by_hand(chances, lot)), ever(walk, lot))
                    self.assertEqual(call(walk=walk, lot=lot), plan)

    def test_plans_of_any_chances(self):
        # Mixes of corners, and choices that change from step to step, do no better.
        rng = random.Random(303)
        for walk in some_walks(303):
            corners = [corners_by_hand(book) for book in walk]
            lot = rng.choice(lots_of(len(walk)))
            least, greatest = fracs(least_ever(walk, lot)), fracs(greatest_ever(walk, lot))
            for _ in range(5):
                plan = []
                for some in corners:
                    weights = random_chance(rng, len(some), 3)
                    plan.append([worth_by_hand([corner[at] for corner in some], weights) for at in range(len(walk))])
                kept = kept_by_hand(plan, lot)
                self.assertTrue(all(one <= two <= three for one, two, three in zip(least, kept, greatest)))

    def test_shunning(self):
        for walk in some_walks(304):
            for lot in lots_of(len(walk)):
                told = tuple(at for at, number in enumerate(least_ever(walk, lot)) if number == (0, 1))
                self.assertEqual(shunning(walk, lot), told)


class BySteps(Told, unittest.TestCase):
    def test_one_step_keeps_them(self):
        for walk in some_walks(305):
            corners = [corners_by_hand(book) for book in walk]
            for lot in lots_of(len(walk)):
                for call, choose in ((least_ever, min), (greatest_ever, max)):
                    told = fracs(call(walk, lot))
                    for at, some in enumerate(corners):
                        step = 1 if at in lot else choose(worth_by_hand(told, corner) for corner in some)
                        self.assertEqual(told[at], step)

    def test_steps_never_go_beyond(self):
        rng = random.Random(306)
        for walk in some_walks(306):
            lot = rng.choice(lots_of(len(walk)))
            for call, meet in ((least_ever, least_meet), (greatest_ever, greatest_meet)):
                ever = fracs(call(walk, lot))
                for steps in (0, 1, 2, 5, 20):
                    told = fracs(meet(walk, lot, steps))
                    self.assertTrue(all(one <= two for one, two in zip(told, ever)))

    def test_steps_come_up_to_them(self):
        # Decimals do for what comes ever nearer.
        rng = random.Random(307)
        for walk in some_walks(307):
            corners = [[tuple(map(float, corner)) for corner in corners_by_hand(book)] for book in walk]
            for lot in rng.sample(lots_of(len(walk)), 3):
                for call, choose in ((least_ever, min), (greatest_ever, max)):
                    told = [float(number) for number in fracs(call(walk, lot))]
                    near = [float(at in lot) for at in range(len(walk))]
                    for _ in range(1500):
                        near = [1.0 if at in lot else choose(sum(one * two for one, two in zip(near, corner))
                                                             for corner in some) for at, some in enumerate(corners)]
                    for one, two in zip(near, told):
                        self.assertAlmostEqual(one, two, 3)

    def test_large_books(self):
        rng = random.Random(308)
        for places in (2, 3, 4):
            for _ in range(4):
                walk = tuple(sound_book(rng, places, 32, 1000, 200) for _ in range(places))
                for lot in lots_of(places):
                    least, greatest = fracs(least_ever(walk, lot)), fracs(greatest_ever(walk, lot))
                    self.assertTrue(all(0 <= one <= two <= 1 for one, two in zip(least, greatest)))
                    plan = [fracs(chance) for chance in reaching_plan(walk, lot)]
                    self.assertEqual(kept_by_hand(plan, lot), greatest)


class Nearer(Told, unittest.TestCase):
    def test_more_quotes(self):
        rng = random.Random(309)
        for walk in some_walks(309):
            chances = [rng.choice(corners_by_hand(book)) for book in walk]
            nearer = []
            for book, chance in zip(walk, chances):
                payoff = tuple(rng.randint(-3, 3) for _ in walk)
                price = pair(Fraction((worth_by_hand(payoff, chance) * 60).__floor__() - rng.randint(0, 60), 60))
                nearer.append(book.with_quote(payoff, price) if len(book.quotes) < 32 else book)
            nearer, lot = tuple(nearer), rng.choice(lots_of(len(walk)))
            for one, two in zip(fracs(least_ever(walk, lot)), fracs(least_ever(nearer, lot))):
                self.assertLessEqual(one, two)
            for one, two in zip(fracs(greatest_ever(walk, lot)), fracs(greatest_ever(nearer, lot))):
                self.assertGreaterEqual(one, two)
            self.assertLessEqual(set(shunning(nearer, lot)), set(shunning(walk, lot)))
            payoff = random_payoff(rng, len(walk), 9)
            for steps in (0, 1, 3, 9):
                for least, greatest, what in ((least_after, greatest_after, payoff), (least_meet, greatest_meet, lot)):
                    ends = [fracs(call(some, what, steps)) for call, some in
                            ((least, walk), (least, nearer), (greatest, nearer), (greatest, walk))]
                    self.assertTrue(all(list(numbers) == sorted(numbers) for numbers in zip(*ends)))

    def test_one_chance_alone(self):
        rng = random.Random(310)
        for places in (2, 3, 4):
            for _ in range(8):
                plan = [random_chance(rng, places, 2) for _ in range(places)]
                walk = tuple(point_book(chance) for chance in plan)
                for lot in lots_of(places):
                    told = pairs(kept_by_hand(plan, lot))
                    self.assertEqual((least_ever(walk, lot), greatest_ever(walk, lot)), (told, told))
                    self.assertEqual(reaching_plan(walk, lot), tuple(map(pairs, plan)))
                    self.assertEqual(shunning_plan(walk, lot), tuple(map(pairs, plan)))

    def test_said_otherwise(self):
        rng = random.Random(311)
        for walk in some_walks(311):
            said = []
            for book in walk:
                quotes = [(tuple(2 * number + 3 for number in payoff), pair(2 * Fraction(*price) + 3))
                          for payoff, price in book.quotes]
                quotes = rng.sample(quotes, len(quotes))
                said.append(Book(book.outcomes, tuple(quotes + [((0,) * book.outcomes, (-1, 1))])[:32]))
            lot = rng.choice(lots_of(len(walk)))
            for call in (least_ever, greatest_ever, shunning):
                self.assertEqual(call(tuple(said), lot), call(walk, lot))
            payoff = random_payoff(rng, len(walk), 9)
            for call, what in ((least_after, payoff), (greatest_after, payoff), (least_meet, lot),
                               (greatest_meet, lot), (least_row, payoff)):
                self.assertEqual(call(tuple(said), what, 5), call(walk, what, 5))

    def test_places_in_another_order(self):
        rng = random.Random(312)
        for walk in some_walks(312):
            order = rng.sample(range(len(walk)), len(walk))
            turned = tuple(Book(len(walk), tuple((tuple(payoff[at] for at in order), price)
                                                 for payoff, price in walk[place].quotes)) for place in order)
            for lot in lots_of(len(walk)):
                other = tuple(sorted(order.index(at) for at in lot))
                for call in (least_ever, greatest_ever):
                    told = call(walk, lot)
                    self.assertEqual(call(turned, other), tuple(told[at] for at in order))
                shunned = tuple(sorted(order.index(at) for at in shunning(walk, lot)))
                self.assertEqual(shunning(turned, other), shunned)
            payoff = random_payoff(rng, len(walk), 9)
            said = tuple(payoff[at] for at in order)
            for call, what, words in ((least_after, payoff, said), (greatest_after, payoff, said),
                                      (least_meet, lot, other), (greatest_meet, lot, other)):
                told = call(walk, what, 5)
                self.assertEqual(call(turned, words, 5), tuple(told[at] for at in order))

    def test_larger_lots(self):
        for walk in some_walks(313):
            lots = lots_of(len(walk))
            for call in (least_ever, greatest_ever):
                told = {lot: fracs(call(walk, lot)) for lot in lots}
                for one in lots:
                    for two in lots:
                        if set(one) <= set(two):
                            self.assertTrue(all(low <= high for low, high in zip(told[one], told[two])))


class Errors(Told, unittest.TestCase):
    def test_errors(self):
        wrong = indexed(InvalidWalk, NO_WALKS), given(InvalidLot, no_lots(2))
        for call in CALLS:
            self.check_first_errors(call, "walk lot", (PAIR, (1,)), wrong)

    def test_for_the_number_of_places(self):
        for call in CALLS:
            self.check_error(InvalidLot, {"given": (3,)}, call, (RAIN,) * 3, (3,))
            self.check_error(InvalidLot, {"given": (4,)}, call, (Book(4, ()),) * 4, (4,))
            self.assertIs(type(call((Book(4, ()),) * 4, (0, 3))), tuple)


if __name__ == "__main__":
    unittest.main()
