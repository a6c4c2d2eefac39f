"""The examples of the document, as they stand there."""

import unittest

from softchances.acts import (beating_mix, best_mix, chance_for_act, good_acts, open_acts, safe_acts, unbeaten_acts)
from softchances.books import Book, chance_for, is_sound, keeps, losing_sale, row_of, worth
from softchances.bounds import (book_of, bounds_of, gathers, is_kept, is_tight_bounds, level_worth, numbers_of,
                                order_chance, order_chances, scattering, tightened)
from softchances.certificates import (certify_act, certify_book, certify_bounds, certify_least, certify_masses,
                                      certify_question, certify_walk)
from softchances.checker import accepts
from softchances.console import Console
from softchances.corners import corners, is_corner, mean_corner
from softchances.desks import Desk
from softchances.errors import Broken, InvalidIndex, InvalidLine, InvalidQuotes, NotSound
from softchances.ever import greatest_ever, least_ever, shunning
from softchances.losses import cheapest_mend, culprits, least_cost, losing_mix, loss
from softchances.masses import (belief, beliefs, clash, masses_behind, masses_of, put_together, room, sure_worth,
                                weakened)
from softchances.news import chances_behind, greatest_behind, least_behind, least_by_question, widens
from softchances.shapes import beginning_bounds, near_bounds, range_bounds, stirred_bounds
from softchances.shelves import Shelf
from softchances.sources import (both, do_meet, greatest_but_one, is_left, least_between, least_blend, least_but_one,
                                 widest_lot)
from softchances.tellers import bound_to, greatest_told, is_told_nothing, least_told
from softchances.tight import (are_alike, follows, is_needless, is_tight, is_within, least_quotes, needless,
                               parting_chance, tight_prices)
from softchances.walks import greatest_after, greatest_meet, least_after, least_meet, least_row, worst_plan
from softchances.worths import end_chance, greatest_chance, greatest_worth, least_chance, least_worth

rain = Book(3, (((1, 0, 0), (1, 3)), ((0, 1, 0), (1, 4)), ((0, 0, 1), (1, 4))))
bad, half = Book(2, (((1, 0), (2, 3)), ((0, 1), (2, 3)))), Book.read("2: 1,0>=1/3 0,1>=1/3")
more = rain.with_quote((1, 1, 0), (1, 2))
low, loose = bounds_of(rain), ((0, 1), (0, 1), (0, 1), (3, 5), (0, 1), (3, 5), (3, 5), (1, 1))
some, news = (((0,), (1, 2)), ((0, 1), (1, 4)), ((0, 1, 2), (1, 4))), (((0, 1, 2), (1, 2)), ((1,), (1, 2)))
plain = ((1, 2), (1, 4), (1, 4))
coins = Book(4, (((1, 1, 0, 0), (1, 2)), ((-1, -1, 0, 0), (-1, 2)), ((1, 0, 1, 0), (1, 2)),
                 ((-1, 0, -1, 0), (-1, 2))))

thirds = Book(3, (((1, 0, 0), (1, 3)), ((0, 1, 0), (1, 3)), ((0, 0, 1), (1, 3))))
doors = ((0, 2), (0, 1))
three, four = ((6, 0), (0, 6), (2, 2)), ((3, 0, 0), (0, 4, 4), (2, 2, 2))
go, back = Book(2, (((0, 1), (1, 4)), ((1, 0), (1, 2)))), Book(2, (((1, 0), (1, 3)),))
last = Book(3, (((0, 0, 1), (1, 3)),))


class Examples(unittest.TestCase):
    def test_books(self):
        self.assertEqual(
            [str(rain), repr(rain), half.outcomes, half.quotes, str(bad.without(0)), str(Book(2, ())),
             worth((6, 0, -6), ((1, 2), (1, 4), (1, 4)))],
            ['3: 1,0,0>=1/3 0,1,0>=1/4 0,0,1>=1/4', 'Book of 3 quotes', 2, (((1, 0), (1, 3)), ((0, 1), (1, 3))),
             '2: 0,1>=2/3', '2:', (3, 2)])
        self.assertEqual(
            [is_sound(rain), is_sound(bad), chance_for(bad), losing_sale(rain), row_of(bad, ((1, 1), (1, 1))),
             keeps(rain, ((1, 2), (1, 4), (1, 4))), keeps(rain, ((1, 1), (0, 1), (0, 1)))],
            [True, False, None, None, ((-1, 3), (-1, 3)), True, False])
        with self.assertRaises(InvalidQuotes) as caught:
            Book(2, (((1, 0), (2, 4)),))
        self.assertEqual(caught.exception.index, 0)

    def test_worths(self):
        self.assertEqual(
            [least_worth(rain, (6, 0, -6)), greatest_worth(rain, (6, 0, -6)), least_chance(rain, (1, 2)),
             greatest_chance(rain, (0,)), least_chance(rain, ()), end_chance(rain, (6, 0, -6)),
             least_worth(Book(2, ()), (5, -7))],
            [(-1, 2), (3, 2), (1, 2), (1, 2), (0, 1), ((1, 3), (1, 4), (5, 12)), (-7, 1)])
        with self.assertRaises(NotSound):
            least_worth(bad, (1, 0))

    def test_corners(self):
        self.assertEqual(
            [corners(rain), corners(half), corners(Book(3, ())), is_corner(rain, ((1, 2), (1, 4), (1, 4))),
             mean_corner(half)],
            [(((1, 3), (1, 4), (5, 12)), ((1, 3), (5, 12), (1, 4)), ((1, 2), (1, 4), (1, 4))),
             (((1, 3), (2, 3)), ((2, 3), (1, 3))),
             (((0, 1), (0, 1), (1, 1)), ((0, 1), (1, 1), (0, 1)), ((1, 1), (0, 1), (0, 1))), True,
             ((1, 2), (1, 2))])

    def test_tight(self):
        self.assertEqual(
            [is_tight(more, 0), is_tight(more, 3), tight_prices(more), needless(more), is_needless(rain, 0),
             least_quotes(more), follows(rain, (1, 1, 0), (7, 12)), follows(rain, (1, 1, 0), (3, 5)),
             are_alike(rain, more), is_within(rain, Book(3, ())), parting_chance(rain, more)],
            [True, False, ((1, 3), (1, 4), (1, 4), (7, 12)), (3,), False, ((0, 1, 2),), True, False, True, True,
             None])

    def test_bounds(self):
        self.assertEqual(
            [low, gathers(low), numbers_of(low), level_worth(low, (6, 0, -6)), order_chance(low, (0, 1, 2)),
             order_chances(low) == corners(rain), scattering(low), str(book_of(loose))],
            [((0, 1), (1, 3), (1, 4), (7, 12), (1, 4), (7, 12), (1, 2), (1, 1)), True,
             ((0, 1), (1, 3), (1, 4), (0, 1), (1, 4), (0, 1), (0, 1), (1, 6)), (-1, 2),
             ((1, 3), (1, 4), (5, 12)), True, None, '3: 1,1,0>=3/5 1,0,1>=3/5 0,1,1>=3/5'])
        self.assertEqual(
            [is_kept(loose), is_tight_bounds(loose), gathers(loose), tightened(loose)[1], tightened(loose)[3],
             level_worth(loose, (1, 0, 0)), least_worth(book_of(loose), (1, 0, 0))],
            [True, False, False, (1, 5), (3, 5), (0, 1), (1, 5)])

    def test_masses(self):
        self.assertEqual(
            [masses_of(low), masses_of(loose), belief(3, some, (0, 1)), room(3, some, (1,)),
             sure_worth(3, some, (4, 2, 0)), beliefs(3, some)[3], clash(3, some, news)],
            [(((0,), (1, 3)), ((0, 1, 2), (1, 6)), ((1,), (1, 4)), ((2,), (1, 4))), None, (3, 4), (1, 2), (5, 2),
             (3, 4), (1, 4)])
        self.assertEqual(
            [put_together(3, some, news), weakened(3, some, (1, 2)), masses_behind(3, some, (1, 2))],
            [(((0,), (1, 3)), ((0, 1), (1, 6)), ((0, 1, 2), (1, 6)), ((1,), (1, 3))),
             (((0,), (1, 4)), ((0, 1), (1, 8)), ((0, 1, 2), (5, 8))), (((1,), (1, 2)), ((1, 2), (1, 2)))])

    def test_shapes(self):
        self.assertEqual(
            [range_bounds((((1, 3), (1, 2)), ((1, 4), (5, 12)), ((0, 1), (1, 1)))), stirred_bounds(plain, (1, 3)),
             near_bounds(plain, (1, 4)), beginning_bounds((((1, 4), (1, 2)), ((1, 2), (3, 4))))],
            [((0, 1), (1, 3), (1, 4), (7, 12), (1, 12), (7, 12), (1, 2), (1, 1)),
             ((0, 1), (1, 3), (1, 6), (1, 2), (1, 6), (1, 2), (1, 3), (1, 1)),
             ((0, 1), (1, 4), (0, 1), (1, 2), (0, 1), (1, 2), (1, 4), (1, 1)),
             ((0, 1), (1, 4), (0, 1), (1, 2), (1, 4), (1, 2), (1, 2), (1, 1))])
        with self.assertRaises(NotSound):
            range_bounds((((0, 1), (1, 3)), ((0, 1), (1, 3))))

    def test_news(self):
        self.assertEqual(
            [least_behind(rain, (0, 1), (1, 0, 0)), greatest_behind(rain, (0, 1), (1, 0, 0)),
             chances_behind(rain, (0, 1)), least_behind(coins, (0, 2), (1, 1, 0, 0)),
             greatest_behind(coins, (0, 2), (1, 1, 0, 0)), least_worth(coins, (1, 1, 0, 0))],
            [(4, 9), (2, 3), (((4, 9), (5, 9), (0, 1)), ((4, 7), (3, 7), (0, 1)), ((2, 3), (1, 3), (0, 1))), (0, 1),
             (1, 1), (1, 2)])
        self.assertEqual(
            [widens(coins, ((0, 2), (1, 3)), (1, 1, 0, 0)), widens(coins, ((0, 3), (1, 2)), (1, 1, 0, 0)),
             least_by_question(rain, ((0, 1), (2,)), (1, 0, 0))],
            [True, False, (0, 1)])

    def test_tellers(self):
        self.assertEqual(
            [bound_to(thirds, doors, 0), least_told(thirds, doors, 0, (1, 0, 0)),
             greatest_told(thirds, doors, 0, (1, 0, 0)), least_told(thirds, doors, 0, (0, 0, 1)),
             is_told_nothing(thirds, doors, (1, 0, 0)), is_told_nothing(thirds, doors, (0, 0, 1))],
            [(2,), (0, 1), (1, 2), (1, 2), True, False])

    def test_acts(self):
        self.assertEqual(
            [safe_acts(half, three), unbeaten_acts(half, three), good_acts(half, three), open_acts(half, three),
             chance_for_act(half, three, 2), beating_mix(half, three, 0), best_mix(half, three)],
            [(0, 1, 2), (0, 1, 2), (0, 1), (0, 1, 2), None, None, ((3, 1), ((1, 2), (1, 2), (0, 1)))])
        self.assertEqual(
            [safe_acts(rain, four), unbeaten_acts(rain, four), good_acts(rain, four), open_acts(rain, four),
             best_mix(rain, four)[0]],
            [(1, 2), (1, 2), (1, 2), (1, 2), (2, 1)])

    def test_losses(self):
        self.assertEqual(
            [loss(bad), losing_mix(bad), least_cost(bad), culprits(bad), loss(rain), losing_mix(rain),
             least_cost(rain), cheapest_mend(half)],
            [(1, 6), ((1, 2), (1, 2)), (1, 3), (0, 1), (0, 1), None, (0, 1), ((0, 1), (0, 1))])

    def test_walks(self):
        self.assertEqual(
            [least_after((go, back), (0, 1), 1), greatest_after((go, back), (0, 1), 1),
             least_after((go, back), (0, 1), 2), least_meet((go, back), (1,), 2), greatest_meet((go, back), (1,), 2),
             least_row((go, back), (0, 1), 2), worst_plan((go, back), (0, 1))],
            [((1, 4), (0, 1)), ((1, 2), (2, 3)), ((1, 8), (1, 12)), ((7, 16), (1, 1)), ((3, 4), (1, 1)),
             ((0, 1), (1, 4), (1, 8)), (((3, 4), (1, 4)), ((1, 1), (0, 1)))])

    def test_ever(self):
        self.assertEqual(
            [least_ever((go, back), (1,)), least_ever((go, back), (0,)), least_ever((go, Book(2, ())), (0,)),
             greatest_ever((go, Book(2, ())), (0,)), shunning((go, Book(2, ())), (0,)), least_ever((go, back), ())],
            [((1, 1), (1, 1)), ((1, 1), (1, 1)), ((1, 1), (0, 1)), ((1, 1), (1, 1)), (1,), ((0, 1), (0, 1))])

    def test_sources(self):
        self.assertEqual(
            [greatest_worth(both(rain, last), (1, 0, 0)), do_meet(rain, last), least_between(rain, last, (1, 0, 0)),
             least_blend(rain, last, (1, 2), (1, 0, 0)), least_but_one(rain, (1, 0, 0)),
             greatest_but_one(rain, (1, 0, 0)), is_left(rain, ((0, 1), (1, 2), (1, 2))),
             is_left(rain, ((1, 1), (0, 1), (0, 1))), widest_lot(rain)],
            [(5, 12), True, (0, 1), (1, 6), (0, 1), (3, 4), True, False, (0,)])

    def test_desks(self):
        desk = Desk(rain)
        self.assertEqual(
            [desk.quote((1, 1, 0), (1, 2)), desk.tighten(), str(desk.book), desk.news((0, 1)), desk.is_sound,
             desk.undo(), desk.raise_to(0, (1, 2)), desk.greatest((0, 1, 0)), desk.drop(3), desk.changes],
            [None, None, '3: 1,0,0>=1/3 0,1,0>=1/4 0,0,1>=1/4 1,1,0>=7/12', None, False, None, None, (1, 4), None, 4])
        with self.assertRaises(InvalidIndex) as caught:
            desk.raise_to(3, (0, 1))
        self.assertEqual(caught.exception.given, 3)

    def test_shelves(self):
        shelf = Shelf()
        self.assertEqual(
            [shelf.do_all(("put", "a", rain), ("put", "b", last), ("wish", ("least", "a", (1, 0, 0), (1, 3))),
                          ("wish", ("meet", "a", "b")), ("wish", ("sound", "b"))), shelf.names, shelf.changes],
            [5, ('a', 'b'), 5])
        with self.assertRaises(Broken) as caught:
            shelf["b"] = bad
        self.assertEqual(caught.exception.index, 1)

    def test_certificates(self):
        self.assertEqual(
            [certify_book(half)[0], certify_least(rain, (6, 0, -6))[0], certify_act(half, three, 2)[0],
             certify_question(coins, ((0, 2), (1, 3)), (1, 1, 0, 0)), certify_bounds(low)[0][0],
             certify_bounds(loose)[0][0], certify_masses(loose), certify_walk((go, back), (0, 1), 2, 0)],
            [('sound', '2: 1,0>=1/3 0,1>=1/3'),
             ('least', '3: 1,0,0>=1/3 0,1,0>=1/4 0,0,1>=1/4', (6, 0, -6), (-1, 2)),
             ('poor', '2: 1,0>=1/3 0,1>=1/3', ((6, 0), (0, 6), (2, 2)), 2),
             (('widens', '4: 1,1,0,0>=1/2 -1,-1,0,0>=-1/2 1,0,1,0>=1/2 -1,0,-1,0>=-1/2', ((0, 2), (1, 3)),
               (1, 1, 0, 0)), ()), 'gathers', 'scatters', None,
             (('walk', ('2: 0,1>=1/4 1,0>=1/2', '2: 1,0>=1/3'), (0, 1), 2, 0, (1, 8)), ())])
        self.assertEqual(
            [accepts(("loses", str(bad)), ((1, 1), (1, 1))), accepts(("loses", str(half)), ((1, 1), (1, 1))),
             accepts(("sound", str(half)), ((1, 2), (1, 2))),
             accepts(("least", str(half), (1, 0), (1, 3)), (((1, 3), (2, 3)), ((1, 1), (0, 1)))),
             accepts(("least", str(half), (1, 0), (1, 3)), (((1, 2), (1, 2)), ((1, 1), (0, 1)))),
             accepts(("free", str(half), (1, 0), (1, 2)), ((1, 3), (2, 3)))],
            [True, False, True, True, False, True])

    def test_console(self):
        console = Console(half)
        self.assertEqual(
            [console.say("least 6,0"), console.say("most 1,-1"), console.say("chance 0"), console.say("corners"),
             console.say("behind 0 5,7"), console.say("quote 1,0 1/2"), console.say("needless"),
             console.say("raise 1 3/4"), console.say("sound"), console.say("loss"), console.say("least 1,0"),
             console.say("undo"), console.say("news 2")],
            ['2/1', '1/3', '1/3 2/3', '1/3,2/3 2/3,1/3', '5/1 5/1', 'ok', '0', 'ok', 'no', '1/8', 'NotSound', 'ok',
             'InvalidLot'])
        with self.assertRaises(InvalidLine) as caught:
            console.say("least")
        self.assertEqual(caught.exception.given, "least")


if __name__ == "__main__":
    unittest.main()
