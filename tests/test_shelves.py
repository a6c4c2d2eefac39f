import random
import unittest
from fractions import Fraction

from softchances.books import Book
from softchances.errors import (Broken, InUse, InvalidDeeds, InvalidIndex, InvalidName, InvalidWish, NotABook,
                                NothingToUndo, UnknownName)
from softchances.shelves import Shelf
from tests.tools import (BAD, BAD3, HALF, NO_BOOKS, ODD_VALUES, RAIN, SIX, Told, any_book, corners_by_hand,
                         corners_of_limits, given, keeps_by_hand, no_indexes, pair, random_payoff, sound_book,
                         worth_by_hand)

LAST = Book(3, (((0, 0, 1), (1, 3)),))
FAR = Book.read("3: 0,0,1>=3/4")
NO_NAMES = ODD_VALUES[:5] + ODD_VALUES[6:] + ("", "abcdefghi", "A", "aB", "a1", "a b", "a\n", "\n", " ", "a_", "{", "`",
                                             ("a",), ["a"], b"a", "abcdefghijkl", -1, True)
NO_WISHES = ODD_VALUES + (
    (), ("sound",), "sound", ("sound", "a", "b"), ["sound", "a"], ("Sound", "a"), (b"sound", "a"), (None, "a"),
    (("sound",), "a"), ([], "a"), ({}, "a"), (0, "a"), ("", "a"), ("loses", "a"), ("least", "a"), ("within", "a"),
    ("meet", "a"), ("apart", "a"), ("within", "a", "b", "c"), ("meet", "a", "b", (0, 1)), ("apart", "a", "b", "c"),
    ("least", "a", (1, 0)), ("least", "a", (1, 0), (1, 2), 0), ("most", "a", (1, 0)), ("least", "a", (1,), (0, 1)),
    ("least", "a", (0,) * 7, (0, 1)), ("least", "a", [1, 0], (0, 1)), ("least", "a", (1, True), (0, 1)),
    ("least", "a", (1001, 0), (0, 1)), ("most", "a", (-1001, 0), (0, 1)), ("least", "a", (1, 0), (2, 4)),
    ("least", "a", (1, 0), (10 ** 9 + 1, 1)), ("most", "a", (1, 0), (1, 10 ** 6 + 1)), ("most", "a", (1, 0), 1),
    ("most", "a", (1, 0), None), ("most", "a", (1, 0), [0, 1]), ("most", "a", (0, 1), (True, 2)),
    ("most", "a", (0, 1), (1, 0)), ("least", "a", (0, 1), (1, -2)), ("least", (1, 0), "a", (0, 1)))
NO_DEEDS = ODD_VALUES + (
    (), ("put",), "put", ("put", "a"), ("put", "a", HALF, 0), ["put", "a", HALF], ("drop",), ("drop", "a", "b"),
    ("wish",), ("wish", "sound", "a"), ("lift",), ("lift", 0, 0), ("undo",), ("undo", 1), ("Put", "a", HALF),
    (None, "a"), (b"drop", "a"), (("drop",), "a"), ([], "a"), ({}, "a"), (0, 0))


class Stop(BaseException):
    """An error of nobody's."""


def holds_by_hand(wish, books):
    """Whether a wish holds, by corners that the test finds."""
    word, names = wish[0], wish[1:3] if wish[0] in ("within", "meet", "apart") else wish[1:2]
    if not all(type(name) is str and name in books for name in names):
        return False
    some = [books[name] for name in names]
    corners = [corners_by_hand(book) for book in some]
    if word == "sound":
        return bool(corners[0])
    if word in ("least", "most"):
        payoff, number = wish[2], Fraction(*wish[3])
        if len(payoff) != some[0].outcomes or not corners[0]:
            return False
        worths = [worth_by_hand(payoff, corner) for corner in corners[0]]
        return min(worths) >= number if word == "least" else max(worths) <= number
    if some[0].outcomes != some[1].outcomes:
        return False
    limits = [(payoff, Fraction(*price)) for book in some for payoff, price in book.quotes]
    meet = bool(corners_of_limits(some[0].outcomes, limits))
    if word == "meet":
        return meet
    if not all(corners):
        return False
    return not meet if word == "apart" else all(keeps_by_hand(some[1], corner) for corner in corners[0])


class OwnShelf:
    """A shelf by hand: the list of all its states, each one a dict of books and a list of wishes."""

    def __init__(self):
        self.states = [({}, [])]

    def put(self, name, book):
        """The error that comes, None if there is none."""
        books, wishes = self.states[-1]
        books = {**books, name: book}
        for at, wish in enumerate(wishes):
            if not holds_by_hand(wish, books):
                return Broken, {"index": at}
        self.states.append((books, wishes))

    def drop(self, name):
        books, wishes = self.states[-1]
        if name not in books:
            return UnknownName, {"given": name}
        for at, wish in enumerate(wishes):
            if name in (wish[1:3] if wish[0] in ("within", "meet", "apart") else wish[1:2]):
                return InUse, {"index": at}
        self.states.append(({other: book for other, book in books.items() if other != name}, wishes))

    def wish(self, wish):
        books, wishes = self.states[-1]
        if not holds_by_hand(wish, books):
            return Broken, {"index": len(wishes)}
        self.states.append((books, wishes + [wish]))

    def lift(self, index):
        books, wishes = self.states[-1]
        if not 0 <= index < len(wishes):
            return InvalidIndex, {"given": index}
        self.states.append((books, wishes[:index] + wishes[index + 1:]))

    def undo(self):
        if len(self.states) == 1:
            return NothingToUndo, {}
        self.states.pop()

    def do_all(self, *deeds):
        kept = list(self.states)
        for word, *pieces in deeds:
            wrong = getattr(self, word)(*pieces)
            if wrong is not None:
                self.states = kept
                return wrong


def drawn_book(rng):
    """A book that is small, for two or three outcomes, sometimes not sound."""
    outcomes = rng.choice((2, 2, 2, 3))
    if rng.random() < 0.15:
        return any_book(rng, outcomes, 2, 2)
    return sound_book(rng, outcomes, rng.randint(0, 3), 2, rng.choice((0, 1, 4)))


def drawn_wish(rng, books):
    """A wish that often holds."""
    names = list(books) * 4 + ["gone", "a", None, 0, ("a",), [], "A"]
    word = rng.choice(("sound", "least", "most", "within", "meet", "apart", "within", "meet", "apart"))
    one, two = rng.choice(names), rng.choice(names)
    if word == "sound":
        return word, one
    if word in ("least", "most"):
        outcomes = books[one].outcomes if type(one) is str and one in books else 2
        if rng.random() < 0.1:
            outcomes = rng.randint(2, 6)
        number = pair(Fraction(rng.randint(-5, 5), rng.randint(1, 3)))
        return word, one, random_payoff(rng, outcomes, 2), number
    return word, one, two


def drawn_deed(rng, own):
    """Some change of a shelf, told as a deed."""
    books, wishes = own.states[-1]
    word = rng.choice(("put", "put", "put", "drop", "wish", "wish", "wish", "lift"))
    if word == "put":
        return word, rng.choice("abcde"), drawn_book(rng)
    if word == "drop":
        return word, rng.choice(list(books) + ["e", "gone"])
    if word == "wish":
        return word, drawn_wish(rng, books)
    return word, rng.randint(0, len(wishes))


def done_to(shelf, deed):
    """The deed, done by its method."""
    word, *pieces = deed
    if word == "put":
        shelf[pieces[0]] = pieces[1]
    else:
        return getattr(shelf, word)(*pieces)


class Shelves(Told):
    def check_shelf(self, shelf, own):
        """What the shelf tells is what its list of states tells."""
        books, wishes = own.states[-1]
        self.assertEqual((shelf.names, shelf.wishes), (tuple(sorted(books)), tuple(wishes)))
        for told, wish in zip(shelf.wishes, wishes):
            self.assertIs(told, wish)
        self.assertEqual((type(shelf.names), type(shelf.wishes), type(shelf.changes)), (tuple, tuple, int))
        self.assertEqual((len(shelf), bool(shelf), shelf.changes), (len(books), bool(books), len(own.states) - 1))
        for name, book in books.items():
            self.assertIs(shelf[name], book)
            self.assertIs(name in shelf, True)
        for wish in wishes:
            self.assertTrue(holds_by_hand(wish, books))
        self.assertIs("gone" in shelf, False)

    def check_done(self, shelf, own, deed):
        """The deed does what it does by hand, or raises that error."""
        wrong = getattr(own, deed[0])(*deed[1:])
        if wrong is None:
            self.assertIsNone(done_to(shelf, deed))
        else:
            self.check_error(wrong[0], wrong[1], done_to, shelf, deed)
        self.check_shelf(shelf, own)
        return deed[0], wrong and wrong[0].__name__


class Rows(Shelves, unittest.TestCase):
    def test_long_rows(self):
        rng, seen = random.Random(371), {}
        for _ in range(12):
            shelf, own = Shelf(), OwnShelf()
            self.check_shelf(shelf, own)
            for _ in range(120):
                deed = ("undo",) if rng.random() < 0.1 else drawn_deed(rng, own)
                kind = self.check_done(shelf, own, deed)
                seen[kind] = seen.get(kind, 0) + 1
            while len(own.states) > 1:
                self.check_done(shelf, own, ("undo",))
            kind = self.check_done(shelf, own, ("undo",))
            seen[kind] = seen.get(kind, 0) + 1
            self.assertEqual((shelf.names, shelf.wishes, shelf.changes, len(shelf)), ((), (), 0, 0))
        for kind in (("put", None), ("put", "Broken"), ("drop", None), ("drop", "InUse"), ("drop", "UnknownName"),
                     ("wish", None), ("wish", "Broken"), ("lift", None), ("lift", "InvalidIndex"), ("undo", None),
                     ("undo", "NothingToUndo")):
            self.assertGreater(seen.get(kind, 0), 4, kind)

    def test_long_rows_of_several_deeds(self):
        rng, seen = random.Random(372), {}
        for _ in range(8):
            shelf, own = Shelf(), OwnShelf()
            for _ in range(60):
                deeds, ahead = [], OwnShelf()
                ahead.states = list(own.states)
                for _ in range(rng.randint(0, 4)):
                    deed = drawn_deed(rng, ahead)
                    if getattr(ahead, deed[0])(*deed[1:]) is None or rng.random() < 0.3:
                        deeds.append(deed)
                watched, wrong = [], own.do_all(*deeds)
                watch = rng.choice((None, lambda held: watched.append((held, held.changes))))
                before = shelf.changes
                if wrong is None:
                    told = shelf.do_all(*deeds, watch=watch)
                    self.assertEqual((type(told), told), (int, len(deeds)))
                    steps = [] if watch is None else list(range(before + 1, before + len(deeds) + 1))
                    self.assertEqual([changes for _, changes in watched], steps)
                    self.assertTrue(all(held is shelf for held, _ in watched))
                else:
                    self.check_error(wrong[0], wrong[1], shelf.do_all, *deeds, watch=watch)
                self.check_shelf(shelf, own)
                seen[wrong is None, len(deeds) > 1] = seen.get((wrong is None, len(deeds) > 1), 0) + 1
            while len(own.states) > 1:
                self.check_done(shelf, own, ("undo",))
        self.assertGreater(min(seen.values()), 10)
        self.assertEqual(len(seen), 4)

    def test_long_rows_of_trials(self):
        rng = random.Random(373)
        for _ in range(6):
            shelf, own = Shelf(), OwnShelf()
            shared, entered = shelf.trial(), []

            def led(depth):
                """Changes and trials within one another, beside an own list."""
                for _ in range(7):
                    self.check_done(shelf, own, ("undo",) if rng.random() < 0.2 else drawn_deed(rng, own))
                    if depth and rng.random() < 0.4:
                        kept = list(own.states)
                        with rng.choice((shared, shelf.trial())) as held:
                            entered.append(held)
                            led(depth - 1)
                        own.states = kept
                        self.check_shelf(shelf, own)

            for _ in range(6):
                led(3)
            self.assertGreater(len(entered), 15)
            self.assertTrue(all(held is shelf for held in entered))


class Names(Shelves, unittest.TestCase):
    def test_names(self):
        shelf = Shelf()
        for name in ("a", "z", "abcdefgh", "zzzzzzzz", "sound", "m"):
            shelf[name] = HALF
            self.assertTrue(name in shelf)
            self.assertIs(shelf[name], HALF)
        self.assertEqual(shelf.names, ("a", "abcdefgh", "m", "sound", "z", "zzzzzzzz"))
        self.assertEqual(len(shelf), 6)

    def test_wrong_names(self):
        shelf = Shelf()
        shelf["a"] = HALF
        for name in NO_NAMES:
            for book in (HALF, BAD, None):
                self.check_error(InvalidName, {"given": name}, shelf.__setitem__, name, book)
        for book in NO_BOOKS:
            for name in ("a", "b"):
                self.check_error(NotABook, {"given": book}, shelf.__setitem__, name, book)
        for name in NO_NAMES + ("b", "aa", "abcdefgh"):
            self.check_error(UnknownName, {"given": name}, shelf.__getitem__, name)
            self.check_error_both_ways(UnknownName, {"given": name}, shelf.drop, "name", name)
            self.assertIs(name in shelf, False)
        self.assertEqual((shelf.names, shelf.wishes, shelf.changes), (("a",), (), 1))

    def test_empty(self):
        shelf = Shelf()
        self.assertEqual((shelf.names, shelf.wishes, shelf.changes, len(shelf)), ((), (), 0, 0))
        self.assertFalse(shelf)
        self.assertTrue(not shelf)
        self.check_error(NothingToUndo, {}, shelf.undo)
        self.check_error(UnknownName, {"given": "a"}, shelf.drop, "a")
        self.check_error(InvalidIndex, {"given": 0}, shelf.lift, 0)
        self.check_error(Broken, {"index": 0}, shelf.wish, ("sound", "a"))
        self.assertEqual(shelf.changes, 0)

    def test_equal_to_itself_alone(self):
        one, two = Shelf(), Shelf()
        trial = one.trial()
        self.assertTrue(one == one and one != two and not one == two and one != () and one != {})
        self.assertTrue(trial == trial and trial != one.trial() and trial)

    def test_changes_that_leave_all_as_it_was(self):
        shelf = Shelf()
        shelf["a"] = HALF
        shelf["a"] = HALF
        self.assertEqual((shelf.changes, len(shelf)), (2, 1))
        shelf.undo()
        self.assertEqual((shelf.changes, shelf.names), (1, ("a",)))
        shelf.undo()
        self.assertEqual((shelf.changes, shelf.names), (0, ()))

    def test_one_shelf_leaves_another_alone(self):
        one, two = Shelf(), Shelf()
        one["a"] = HALF
        one.wish(("sound", "a"))
        self.assertEqual((two.names, two.wishes, two.changes), ((), (), 0))


class Wishes(Shelves, unittest.TestCase):
    def shelf_of(self, **books):
        """A shelf with these books."""
        shelf = Shelf()
        for name, book in books.items():
            shelf[name] = book
        return shelf

    def test_all_words_true_and_false(self):
        shelf = self.shelf_of(rain=RAIN, last=LAST, far=FAR, bad=BAD3, half=HALF, two=BAD, same=Book(3, RAIN.quotes))
        books = {name: shelf[name] for name in shelf.names}
        for wish, told in (
                (("sound", "rain"), True), (("sound", "bad"), False), (("sound", "half"), True),
                (("sound", "none"), False), (("sound", None), False), (("sound", []), False),
                (("least", "rain", (1, 0, 0), (1, 3)), True), (("least", "rain", (1, 0, 0), (1, 2)), False),
                (("least", "rain", (1, 0, 0), (-10 ** 9, 1)), True),
                (("least", "rain", (1, 0, 0), (333333, 10 ** 6)), True),
                (("least", "rain", (1, 0, 0), (333334, 999999)), False), (("least", "rain", (1, 0), (0, 1)), False),
                (("least", "rain", (1, 0, 0, 0), (0, 1)), False), (("least", "bad", (1, 0, 0), (0, 1)), False),
                (("least", "none", (1, 0, 0), (0, 1)), False), (("least", 0, (0,) * 6, (0, 1)), False),
                (("most", "rain", (1, 0, 0), (1, 2)), True), (("most", "rain", (1, 0, 0), (1, 3)), False),
                (("most", "rain", (1, 0, 0), (10 ** 9, 1)), True), (("most", "bad", (1, 0, 0), (1, 1)), False),
                (("most", "half", (1, 0, 0), (1, 1)), False), (("most", "half", (1, 0), (2, 3)), True),
                (("within", "rain", "rain"), True), (("within", "rain", "same"), True),
                (("within", "rain", "last"), False), (("within", "far", "last"), True),
                (("within", "last", "far"), False), (("within", "rain", "bad"), False),
                (("within", "bad", "rain"), False), (("within", "bad", "bad"), False),
                (("within", "rain", "half"), False), (("within", "half", "two"), False),
                (("within", "rain", "none"), False), (("within", None, "rain"), False),
                (("meet", "rain", "last"), True), (("meet", "rain", "far"), False), (("meet", "last", "far"), True),
                (("meet", "rain", "rain"), True), (("meet", "bad", "bad"), False), (("meet", "rain", "bad"), False),
                (("meet", "half", "rain"), False), (("meet", "half", "none"), False), (("meet", (), {}), False),
                (("apart", "rain", "far"), True), (("apart", "far", "rain"), True), (("apart", "rain", "last"), False),
                (("apart", "rain", "bad"), False), (("apart", "bad", "rain"), False), (("apart", "bad", "bad"), False),
                (("apart", "half", "rain"), False), (("apart", "rain", "none"), False),
                (("apart", HALF, RAIN), False)):
            self.assertIs(holds_by_hand(wish, books), told, wish)
            changes, wishes = shelf.changes, shelf.wishes
            if told:
                self.assertIsNone(shelf.wish(wish))
                self.assertIs(shelf.wishes[-1], wish)
                self.assertEqual((shelf.wishes[:-1], shelf.changes), (wishes, changes + 1))
                self.assertIsNone(shelf.lift(index=len(wishes)))
                self.assertIsNone(shelf.wish(wish=wish))
            else:
                self.check_error_both_ways(Broken, {"index": len(wishes)}, shelf.wish, "wish", wish)
                self.assertEqual((shelf.wishes, shelf.changes), (wishes, changes))

    def test_most_quotes(self):
        shelf = self.shelf_of(one=Book(2, (((1, 0), (1, 2)),) * 32), two=Book(2, (((0, 1), (1, 2)),) * 32),
                              three=Book(2, (((0, 1), (501, 1000)),) * 32))
        for wish in (("meet", "one", "two"), ("apart", "one", "three"), ("within", "three", "two")):
            shelf.wish(wish)
        self.check_error(Broken, {"index": 3}, shelf.wish, ("apart", "one", "two"))
        self.check_error(Broken, {"index": 3}, shelf.wish, ("meet", "one", "three"))

    def test_the_first_wish_that_would_not_hold(self):
        shelf = self.shelf_of(a=RAIN, b=LAST, c=FAR)
        for wish in (("sound", "b"), ("meet", "a", "b"), ("apart", "a", "c"), ("least", "a", (1, 0, 0), (1, 3)),
                     ("within", "c", "b"), ("sound", "a")):
            shelf.wish(wish)
        for name, book, index in (("a", LAST, 2), ("a", BAD3, 1), ("a", BAD, 1), ("b", BAD3, 0), ("b", HALF, 1),
                                  ("b", Book.read("3: 0,0,1>=7/8"), 1), ("b", RAIN, 4), ("c", RAIN, 2), ("c", BAD3, 2),
                                  ("c", Book.read("3: 1,0,0>=3/4"), 4),
                                  ("a", Book.read("3: 0,0,1>=1/2 0,0,-1>=-1/2"), 3)):
            with self.assertRaises(Broken) as caught:
                shelf[name] = book
            self.assertEqual(caught.exception.index, index, (name, str(book)))
            self.assertEqual((shelf.changes, shelf["a"], shelf["b"], shelf["c"]), (9, RAIN, LAST, FAR))
        shelf["c"] = Book.read("3: 0,0,1>=5/6")
        shelf["other"] = BAD
        for name, index in (("a", 1), ("b", 0), ("c", 2)):
            self.check_error_both_ways(InUse, {"index": index}, shelf.drop, "name", name)
        self.assertIsNone(shelf.drop(name="other"))
        shelf.lift(0)
        self.check_error(InUse, {"index": 0}, shelf.drop, "b")
        self.assertEqual(shelf.changes, 13)

    def test_words_and_payoffs_are_no_names(self):
        shelf = self.shelf_of(sound=HALF, least=HALF, a=HALF)
        shelf.wish(("sound", "a"))
        shelf.wish(("least", "a", (1, 0), (1, 3)))
        shelf.drop("sound")
        shelf.drop("least")
        self.check_error(InUse, {"index": 0}, shelf.drop, "a")

    def test_the_same_wish_twice(self):
        shelf = self.shelf_of(a=HALF)
        wish = ("sound", "a")
        shelf.wish(wish)
        shelf.wish(wish)
        self.assertEqual(shelf.wishes, (wish, wish))
        shelf.lift(0)
        self.assertEqual((shelf.wishes, shelf.changes), ((wish,), 4))

    def test_wrong_wishes(self):
        shelf = self.shelf_of(a=HALF)
        shelf.wish(("sound", "a"))
        for value in NO_WISHES:
            self.check_error_both_ways(InvalidWish, {"given": value}, shelf.wish, "wish", value)
        for word in ("sound", "within", "meet", "apart", "least", "most"):
            rest = {"sound": (), "least": ((1, 0), (0, 1)), "most": ((1, 0), (0, 1))}.get(word, ("a",))
            for value in ODD_VALUES:
                # Of the right form, whatever stands in the place of a name.
                self.check_error(Broken, {"index": 1}, shelf.wish, (word, value) + rest)
                if rest == ("a",):
                    self.check_error(Broken, {"index": 1}, shelf.wish, (word, "a", value))
        for value in no_indexes(1):
            self.check_error_both_ways(InvalidIndex, {"given": value}, shelf.lift, "index", value)
        self.assertEqual((shelf.changes, shelf.wishes), (2, (("sound", "a"),)))


class Deeds(Shelves, unittest.TestCase):
    def start(self):
        """A shelf with two changes."""
        shelf = Shelf()
        shelf["a"] = HALF
        shelf.wish(("sound", "a"))
        return shelf

    def check_as_it_was(self, shelf):
        """The shelf is as it was at the start."""
        self.assertEqual((shelf.names, shelf.wishes, shelf.changes), (("a",), (("sound", "a"),), 2))
        self.assertEqual(shelf["a"], HALF)

    def test_each_is_a_change(self):
        shelf = self.start()
        deeds = (("put", "b", RAIN), ("wish", ("sound", "b")), ("lift", 0), ("drop", "a"))
        self.assertEqual(shelf.do_all(*deeds), 4)
        self.assertEqual((shelf.names, shelf.wishes, shelf.changes), (("b",), (("sound", "b"),), 6))
        shelf.undo()
        self.assertEqual((shelf.names, shelf.wishes), (("a", "b"), (("sound", "b"),)))
        shelf.undo()
        self.assertEqual(shelf.wishes, (("sound", "a"), ("sound", "b")))
        shelf.undo()
        shelf.undo()
        self.check_as_it_was(shelf)

    def test_none(self):
        shelf = self.start()
        self.assertEqual((shelf.do_all(), shelf.do_all(watch=None)), (0, 0))
        self.assertEqual(shelf.do_all(watch=lambda held: 1 // 0), 0)
        self.check_as_it_was(shelf)

    def test_forms_are_looked_at_first(self):
        shelf = self.start()
        for value in NO_DEEDS:
            for ahead in ((), (("put", "b", RAIN),), (("put", "A", None), ("drop", "none"))):
                self.check_error(InvalidDeeds, {"index": len(ahead)}, shelf.do_all, *ahead, value, None,
                                 watch=lambda held: 1 // 0)
                self.check_as_it_was(shelf)

    def test_the_first_error(self):
        shelf = self.start()
        for deed, error, kept in (
                (("put", "A", None), InvalidName, {"given": "A"}), (("put", "b", None), NotABook, {"given": None}),
                (("put", "a", BAD), Broken, {"index": 0}), (("drop", "b"), UnknownName, {"given": "b"}),
                (("drop", ()), UnknownName, {"given": ()}), (("drop", "a"), InUse, {"index": 0}),
                (("wish", None), InvalidWish, {"given": None}), (("wish", ("sound", [])), Broken, {"index": 1}),
                (("lift", 1), InvalidIndex, {"given": 1}), (("lift", True), InvalidIndex, {"given": True})):
            for ahead in ((), (("put", "c", RAIN), ("drop", "c")), (("put", "a", Book(2, ())),)):
                for behind in ((), (("drop", "never"), ("put", "A", None))):
                    self.check_error(error, kept, shelf.do_all, *ahead, deed, *behind)
                    self.check_as_it_was(shelf)

    def test_a_wish_must_hold_behind_each_deed(self):
        shelf = Shelf()
        shelf.do_all(("put", "a", RAIN), ("put", "b", LAST), ("wish", ("meet", "a", "b")))
        # Both books together would do, but not the first one alone.
        self.check_error(Broken, {"index": 0}, shelf.do_all, ("put", "a", HALF), ("put", "b", HALF))
        self.assertEqual(shelf.do_all(("lift", 0), ("put", "a", HALF), ("put", "b", HALF),
                                      ("wish", ("meet", "a", "b"))), 4)
        self.assertEqual(shelf.changes, 7)

    def test_watch(self):
        shelf, seen = self.start(), []

        def watch(held):
            seen.append((held is shelf, held.names, held.wishes, held.changes))

        self.assertEqual(shelf.do_all(("put", "b", RAIN), ("lift", 0), ("drop", "a"), watch=watch), 3)
        wishes = (("sound", "a"),)
        self.assertEqual(seen, [(True, ("a", "b"), wishes, 3), (True, ("a", "b"), (), 4), (True, ("b",), (), 5)])

    def test_errors_of_watch(self):
        for stop in (ValueError, KeyError, Stop, KeyboardInterrupt, SystemExit, GeneratorExit, NothingToUndo):
            for most in (3, 4, 5):
                shelf = self.start()

                def watch(held):
                    if held.changes == most:
                        raise stop()

                with self.assertRaises(stop):
                    shelf.do_all(("put", "b", RAIN), ("wish", ("sound", "b")), ("put", "c", BAD), watch=watch)
                self.check_as_it_was(shelf)
                self.assertEqual(shelf.do_all(("put", "b", RAIN), watch=lambda held: None), 1)

    def test_an_error_behind_watched_deeds(self):
        shelf, seen = self.start(), []
        self.check_error(InUse, {"index": 0}, shelf.do_all, ("put", "b", RAIN), ("drop", "a"), ("put", "c", RAIN),
                         watch=lambda held: seen.append(held.changes))
        self.assertEqual(seen, [3])
        self.check_as_it_was(shelf)


class Trials(Shelves, unittest.TestCase):
    def test_ends(self):
        shelf = Shelf()
        shelf["a"] = RAIN
        for stop in (None, ValueError, Stop, KeyboardInterrupt, UnknownName, GeneratorExit):
            def led():
                with shelf.trial() as held:
                    self.assertIs(held, shelf)
                    held["b"] = LAST
                    held.wish(("meet", "a", "b"))
                    held.undo()
                    held.undo()
                    held.undo()
                    self.assertEqual((held.names, held.changes), ((), 0))
                    held.do_all(("put", "c", BAD), ("put", "a", BAD))
                    if stop is UnknownName:
                        return held["none"]
                    if stop is not None:
                        raise stop()
                    return 7
            if stop is None:
                self.assertEqual(led(), 7)
            else:
                with self.assertRaises(stop):
                    led()
            self.assertEqual((shelf.names, shelf.wishes, shelf.changes, shelf["a"]), (("a",), (), 1, RAIN))
        shelf.undo()
        self.assertEqual((len(shelf), shelf.changes), (0, 0))

    def test_an_empty_shelf_in_a_trial(self):
        # A shelf without names is false, and its trial gives it nevertheless.
        shelf = Shelf()
        with shelf.trial() as held:
            self.assertIs(held, shelf)
            held["a"] = HALF
        self.assertEqual((shelf.names, shelf.changes), ((), 0))

    def test_one_trial_entered_several_times(self):
        shelf = Shelf()
        trial = shelf.trial()
        with trial:
            shelf["a"] = HALF
            with trial:
                shelf["b"] = HALF
                with trial:
                    shelf.undo()
                    shelf.undo()
                self.assertEqual(shelf.names, ("a", "b"))
            self.assertEqual(shelf.names, ("a",))
        self.assertEqual(shelf.names, ())
        shelf["c"] = HALF
        with trial:
            shelf.drop("c")
        self.assertEqual((shelf.names, shelf.changes), (("c",), 1))

    def test_tried(self):
        shelf = Shelf()
        shelf["a"] = HALF
        told = shelf.tried(lambda held: (held, held.do_all(("put", "b", RAIN), ("drop", "a")), held.names))
        self.assertIs(told[0], shelf)
        self.assertEqual(told[1:], (2, ("b",)))
        self.assertEqual((shelf.names, shelf.changes), (("a",), 1))
        self.assertIsNone(shelf.tried(action=lambda held: held.drop("a")))
        self.assertEqual((shelf.names, shelf.changes), (("a",), 1))
        self.check_error(UnknownName, {"given": "b"}, shelf.tried, lambda held: (held.undo(), held["b"]))
        self.assertEqual((shelf.names, shelf.changes), (("a",), 1))
        self.assertEqual(shelf.tried(lambda held: held.tried(lambda inner: inner.drop("a") or len(inner))), 0)

    def test_a_trial_in_watch(self):
        shelf, seen = Shelf(), []

        def watch(held):
            seen.append(held.tried(lambda inner: (inner.undo(), inner.names)[1]))

        self.assertEqual(shelf.do_all(("put", "a", HALF), ("put", "b", SIX), watch=watch), 2)
        self.assertEqual((seen, shelf.names, shelf.changes), ([(), ("a",)], ("a", "b"), 2))


class Wide(Shelves, unittest.TestCase):
    def test_wishes_about_large_books(self):
        rng = random.Random(374)
        for outcomes in (4, 6):
            shelf, book = Shelf(), sound_book(rng, outcomes, 32, 1000, 200)
            shelf["wide"], shelf["free"] = book, Book(outcomes, ())
            shelf.do_all(("wish", ("within", "wide", "free")), ("wish", ("meet", "free", "wide")),
                         ("wish", ("least", "free", (7,) * outcomes, (7, 1))), ("wish", ("sound", "wide")))
            self.check_error(Broken, {"index": 4}, shelf.wish, ("within", "free", "wide"))
            self.check_error(Broken, {"index": 4}, shelf.wish, ("apart", "wide", "free"))
            self.assertEqual(shelf.changes, 6)


class Errors(Told, unittest.TestCase):
    def test_given(self):
        self.assertEqual(len(given(InvalidName, NO_NAMES)), len(NO_NAMES))
        self.assertFalse(any(type(name) is str and 0 < len(name) < 9 and set(name) <= set("abcdefghijklmnopqrstuvwxyz")
                             for name in NO_NAMES))


if __name__ == "__main__":
    unittest.main()
