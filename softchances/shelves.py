"""Shelves: books under names, with wishes that hold after each change."""

from softchances.books import check_book
from softchances.checks import check_index, check_name
from softchances.errors import Broken, InUse, InvalidDeeds, InvalidWish, NothingToUndo, UnknownName
from softchances.piles import Pile, Trial
from softchances.wishes import holds, is_wish, names_in

_DEEDS = {"put": 3, "drop": 2, "wish": 2, "lift": 2}


class Stock:
    """The dict of the books on a shelf under their names, and the tuple of what is wished; it never changes."""

    def __init__(self, books, wished):
        self.books = books
        self.wished = wished


class Shelf:
    """Books and wishes; its pile has the stock of now above all earlier ones."""

    def __init__(self):
        self.pile = Pile(Stock({}, ()), None)

    @property
    def names(self):
        """The ascending tuple of the names."""
        return tuple(sorted(list(self.pile.top.books)))

    @property
    def wishes(self):
        """The tuple of the wishes, in their order."""
        return self.pile.top.wished

    @property
    def changes(self):
        """How many changes can be taken back."""
        return self.pile.height

    def __len__(self):
        return len(self.pile.top.books)

    def __contains__(self, value):
        return isinstance(value, str) and value in self.pile.top.books

    def __iter__(self):
        raise TypeError("a shelf is not gone through: ask for its names")

    def __getitem__(self, name):
        if name not in self:
            raise UnknownName(name)
        return self.pile.top.books[name]

    def __setitem__(self, name, book):
        check_name(name)
        check_book(book)
        books = {**self.pile.top.books, name: book}
        for at, wish in enumerate(self.wishes):
            # All other wishes hold as they did.
            if name in names_in(wish) and not holds(wish, books):
                raise Broken(at)
        self.pile = Pile(Stock(books, self.wishes), self.pile)

    def drop(self, name):
        """Takes a name away."""
        if name not in self:
            raise UnknownName(name)
        for at, wish in enumerate(self.wishes):
            if name in names_in(wish):
                raise InUse(at)
        books = {other: self[other] for other in self.names if other != name}
        self.pile = Pile(Stock(books, self.wishes), self.pile)

    def wish(self, wish):
        """A wish more, behind the others."""
        if not is_wish(wish):
            raise InvalidWish(wish)
        books = self.pile.top.books
        if not holds(wish, books):
            raise Broken(len(self.wishes))
        self.pile = Pile(Stock(books, self.wishes + (wish,)), self.pile)

    def lift(self, index):
        """Takes a wish away."""
        check_index(index, len(self.wishes))
        left = self.wishes[:index] + self.wishes[index + 1:]
        self.pile = Pile(Stock(self.pile.top.books, left), self.pile)

    def undo(self):
        """Takes back the last change."""
        if self.pile.below is None:
            raise NothingToUndo()
        self.pile = self.pile.below

    def do_all(self, *deeds, watch=None):
        """Several changes or none; returns how many."""
        check_deeds(deeds)
        before, done = self.pile, None
        try:
            for deed in deeds:
                do_deed(self, deed)
                if watch is not None:
                    watch(self)
            done = len(deeds)
        finally:
            if done is None:
                self.pile = before
        return done

    def trial(self):
        """For a `with` statement, behind which the shelf is as it was."""
        return Trial(self)

    def tried(self, action):
        """What the function returns for the shelf, which is as it was then."""
        with self.trial() as shelf:
            return action(shelf)


def check_deeds(deeds):
    """InvalidDeeds with the first one that has no form of a deed."""
    for at, deed in enumerate(deeds):
        if not isinstance(deed, tuple) or len(deed) == 0 or not isinstance(deed[0], str):
            raise InvalidDeeds(at)
        if _DEEDS.get(deed[0]) != len(deed):
            raise InvalidDeeds(at)


def do_deed(shelf, deed):
    """One change of the shelf."""
    word = deed[0]
    if word == "put":
        shelf[deed[1]] = deed[2]
    elif word == "drop":
        shelf.drop(deed[1])
    elif word == "wish":
        shelf.wish(deed[1])
    else:
        shelf.lift(deed[1])
