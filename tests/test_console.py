import random
import re
import unittest
from fractions import Fraction

from softchances.books import Book, is_sound
from softchances.console import Console
from softchances.corners import corners
from softchances.desks import Desk
from softchances.errors import InvalidLine, NoAnswer, NotABook, WrongValue
from softchances.losses import loss
from softchances.news import greatest_behind, least_behind
from softchances.tight import needless
from softchances.worths import greatest_chance, greatest_worth, least_chance, least_worth
from tests.judge import ratio
from tests.tools import (BAD, BAD3, BAD6, HALF, MORE, NO_BOOKS, RAIN, SIX, Told, any_book, lots_of, never_books, pair,
                         random_payoff, small_books, sound_book)

WHOLE = r"(?:0|-?[1-9][0-9]*)"
NUMBERS = rf"{WHOLE}(?:,{WHOLE})*"
RATIO = rf"{WHOLE}/[1-9][0-9]*"
LINES = [re.compile(form) for form in (
    rf"quote {NUMBERS} ({RATIO})", rf"drop {WHOLE}", rf"raise {WHOLE} ({RATIO})", "tighten", rf"news {NUMBERS}", "undo",
    "book", "sound", rf"least {NUMBERS}", rf"most {NUMBERS}", rf"chance {NUMBERS}", rf"behind {NUMBERS} {NUMBERS}",
    "needless", "corners", "loss")]
NO_LINES = (
    "", " ", "\n", "quote", "quote 1,0", "quote 1,0 ", "quote  1,0 1/2", "quote 1,0  1/2", " quote 1,0 1/2",
    "quote 1,0 1/2 ", "quote 1,0 1/2 1", "quote 1, 0 1/2", "quote 1,0, 1/2", "quote ,1,0 1/2", "quote 1,,0 1/2",
    "quote 1,0 2/4", "quote 1,0 0/2", "quote 1,0 1", "quote 1,0 1/", "quote 1,0 /2", "quote 1,0 1/0", "quote 1,0 -1/0",
    "quote 1,0 0/0", "quote 1,0 1/-2", "quote 1,0 -1/-2", "quote 1,0 +1/2", "quote 1,0 1/+2", "quote 1,0 01/2",
    "quote 1,0 1/02", "quote 1,0 1/2/3", "quote 1,0 1.5", "quote 1,0 -0/1", "quote +1,0 1/2", "quote 01,0 1/2",
    "quote -0,1 1/2", "quote 1,00 1/2", "quote 1,--1 1/2", "quote 1,- 1/2", "quote (1,0) 1/2", "quote 1;0 1/2",
    "quote 1,0\n1/2", "quote 1,0 1/2\n", "\nquote 1,0 1/2", "Quote 1,0 1/2", "quote 1,0>=1/2", "quote a,b 1/2",
    "quote 1_0,0 1/2", "quote 1,0 1_0/3", "drop", "drop ", "drop 1 ", "drop  1", "drop 1,2", "drop 1/2",
    "drop 01", "drop -0", "drop +1", "drop one", "drop 1 2", "drop 1\n", "raise 1", "raise 1/2", "raise 1 1/2 1/3",
    "raise 1 2", "raise 1/2 1", "raise 1,2 1/2", "raise 1 2/4", "raise -0 1/2", "raise 00 1/2", "tighten ", " tighten",
    "tighten 1", "tighten\n", "TIGHTEN", "news", "news ", "news ()", "news 0 1", "news 0,", "news ,0", "news 0, 1",
    "news 00", "news -0", "news 0/1", "undo ", "undo 1", "undo\n", "und", "undoo", "book ", "book 1", "Book", "books",
    "sound?", "sound 1", "sounds", "least", "least ", "least 1/2", "least 1,0 1", "least 1,+0", "least 1 0", "most",
    "most 1,0,", "most 1,0x", "chance", "chance ", "chance 0 1", "chance 0/1", "behind", "behind 0", "behind 0 ",
    "behind 0  1,0", "behind  1,0", "behind 0 1,0 ", "behind 0 1/2", "behind 0 1,0 1,0", "behind , 1,0", "needless ",
    "needless 1", "corners 1", "corner", "loss ", "losses", "loss 1", "help", "quit", "undo; book", "undo\nbook",
    "tighten undo", "1", "0/1", "-", "None")
NO_STRINGS = (None, True, 0, 3, b"undo", b"book", ("undo",), ["undo"], [], (), {}, {"undo": 1}, HALF, object(), str,
              ValueError("undo"))


def is_line(text):
    """Whether it is a line of the console, by its form alone."""
    for form in LINES:
        found = form.fullmatch(text)
        if found and all(ratio(tuple(map(int, part.split("/")))) is not None for part in found.groups()):
            return True
    return False


def said(call, *args):
    """What a call tells, or the name of its error."""
    try:
        return call(*args)
    except (WrongValue, NoAnswer) as error:
        return type(error).__name__


def text_of(told):
    """A fraction, or the name of an error, as a console says it."""
    return told if isinstance(told, str) else f"{told[0]}/{told[1]}"


def numbers(row):
    """Numbers with commas between."""
    return ",".join(map(str, row))


def both_ends(one, two, *args):
    """The least and the greatest with a space between, or the name of an error."""
    least, greatest = said(one, *args), said(two, *args)
    return least if isinstance(least, str) else f"{text_of(least)} {text_of(greatest)}"


def questions(rng, book):
    """Lines that ask about a book, with what the functions tell."""
    yield "book", str(book)
    yield "sound", "yes" if is_sound(book) else "no"
    yield "loss", text_of(loss(book))
    spare = said(needless, book)
    yield "needless", spare if isinstance(spare, str) else " ".join(map(str, spare)) or "none"
    ends = said(corners, book)
    yield "corners", ends if isinstance(ends, str) else " ".join(",".join(map(text_of, corner)) for corner in ends)
    payoffs = [random_payoff(rng, book.outcomes, rng.choice((3, 1000))), (1,), (0,) * 7, (1001,) * book.outcomes,
               (-1000,) * book.outcomes]
    for payoff in payoffs:
        yield f"least {numbers(payoff)}", text_of(said(least_worth, book, payoff))
        yield f"most {numbers(payoff)}", text_of(said(greatest_worth, book, payoff))
    for lot in lots_of(book.outcomes)[1:] + [(1, 0), (0, 0), (-1,), (book.outcomes,), (10 ** 50,)]:
        yield f"chance {numbers(lot)}", both_ends(least_chance, greatest_chance, book, lot)
        for payoff in (payoffs[0], rng.choice(payoffs)):
            yield (f"behind {numbers(lot)} {numbers(payoff)}",
                   both_ends(least_behind, greatest_behind, book, lot, payoff))


def drawn_change(rng, outcomes, many):
    """The line of some change, and the same for a desk."""
    price = pair(Fraction(rng.randint(-6, 4), rng.choice((1, 2, 3, 4, 2000))))
    payoff = rng.choice((random_payoff(rng, outcomes), random_payoff(rng, outcomes), (1,)))
    index, lot = rng.randint(-1, many), rng.choice(lots_of(outcomes)[1:] + [(outcomes,)])
    return rng.choice(((f"quote {numbers(payoff)} {text_of(price)}", "quote", payoff, price),
                       (f"quote {numbers(payoff)} {text_of(price)}", "quote", payoff, price),
                       (f"drop {index}", "drop", index), (f"raise {index} {text_of(price)}", "raise_to", index, price),
                       ("tighten", "tighten"), (f"news {numbers(lot)}", "news", lot), ("undo", "undo"),
                       ("undo", "undo")))


class Lines(Told, unittest.TestCase):
    def check_line(self, console, line, told):
        """The console says this to the line, by place and by name."""
        self.assertTrue(is_line(line), line)
        self.check_both_ways(told, console.say, "line", line)

    def test_questions(self):
        rng = random.Random(381)
        books = [HALF, RAIN, MORE, BAD, BAD3, BAD6, SIX, Book(2, ())] + list(never_books(381, 3))
        books += list(small_books(381, 4))[::4] + [sound_book(rng, outcomes, 8) for outcomes in (5, 6)]
        answers = set()
        for book in books:
            console = Console(book)
            for line, told in questions(rng, book):
                self.check_line(console, line, told)
                answers.add(told if told.isalpha() else "")
        self.assertEqual(answers, {"", "yes", "no", "none", "NotSound", "InvalidPayoff", "InvalidLot", "Never",
                                   "TooGreat"})

    def test_by_hand(self):
        console = Console(book=HALF)
        for line, told in (
                ("least 6,0", "2/1"), ("most 1,-1", "1/3"), ("chance 0", "1/3 2/3"), ("chance 0,1", "1/1 1/1"),
                ("corners", "1/3,2/3 2/3,1/3"), ("behind 0 5,7", "5/1 5/1"), ("behind 0,1 6,-3", "0/1 3/1"),
                ("book", "2: 1,0>=1/3 0,1>=1/3"), ("sound", "yes"), ("loss", "0/1"), ("needless", "none"),
                ("quote 1,0 1/4", "ok"), ("needless", "2"), ("quote 1,0 1/4", "ok"), ("needless", "2 3"),
                ("tighten", "ok"), ("book", "2: 1,0>=1/3 0,1>=1/3 1,0>=1/3 1,0>=1/3"), ("needless", "0 2 3"),
                ("raise 1 3/4", "ok"), ("sound", "no"), ("loss", "1/24"), ("least 0,0", "NotSound"),
                ("tighten", "NotSound"), ("corners", "NotSound"), ("needless", "NotSound"), ("chance 0", "NotSound"),
                ("behind 0 5,7", "NotSound"), ("undo", "ok"), ("sound", "yes"), ("drop 3", "ok"),
                ("drop 3", "InvalidIndex"), ("drop -1", "InvalidIndex"), ("raise 3 1/2", "InvalidIndex"),
                ("raise 3 1/2000", "InvalidIndex"),
                ("raise 0 1/2000", "InvalidFraction"), ("quote 1,0 1/2000", "InvalidFraction"),
                ("quote 1,0 -1000001/1", "InvalidFraction"), ("quote 1 1/2000", "InvalidPayoff"),
                ("quote 1,0,0 1/2", "InvalidPayoff"), ("quote 1001,0 1/2", "InvalidPayoff"), ("news 2", "InvalidLot"),
                ("news 1,0", "InvalidLot"), ("news 0,1", "ok"), ("news 1", "ok"), ("sound", "no"), ("undo", "ok"),
                ("least 1", "InvalidPayoff"), ("most 1,2,3", "InvalidPayoff"), ("chance 0,0", "InvalidLot"),
                ("behind 2 1,2,3", "InvalidLot"), ("behind 1 1,2,3", "InvalidPayoff"), ("undo", "ok"), ("undo", "ok"),
                ("undo", "ok"), ("undo", "ok"), ("undo", "ok"), ("undo", "NothingToUndo"),
                ("book", "2: 1,0>=1/3 0,1>=1/3"), ("raise 0 -2/1", "ok"), ("book", "2: 1,0>=-2/1 0,1>=1/3"),
                ("corners", "0/1,1/1 2/3,1/3"), ("behind 0 9,-9", "9/1 9/1"), ("raise 1 1/1", "ok"),
                ("behind 0 9,-9", "Never")):
            self.assertTrue(is_line(line), line)
            self.assertEqual(console.say(line), told, line)

    def test_thirty_two_quotes(self):
        console = Console(Book(2, ()))
        for many in range(32):
            self.assertEqual(console.say("quote -1,1 -1/1"), "ok")
        for line in ("quote -1,1 -1/1", "news 0"):
            self.assertEqual(console.say(line), "TooGreat")
        self.assertEqual(console.say("quote -1,1,1 -1/1"), "InvalidPayoff")
        self.assertEqual(console.say("news 2"), "InvalidLot")
        self.assertEqual(console.say("book"), "2:" + " -1,1>=-1/1" * 32)
        fine = Console(Book.read("3: 1,0,0>=1/997 0,1,0>=1/991 1,1,0>=0/1"))
        self.assertEqual([fine.say("tighten"), fine.say("undo")], ["TooGreat", "NothingToUndo"])

    def test_long_rows_beside_a_desk(self):
        rng, seen = random.Random(382), {}
        for start in (HALF, RAIN, BAD, Book(2, ()), sound_book(rng, 4, 2), any_book(rng, 3, 3)):
            console, desk = Console(start), Desk(start)
            for step in range(60):
                line, name, *pieces = drawn_change(rng, start.outcomes, len(desk.book.quotes))
                told = said(getattr(desk, name), *pieces) or "ok"
                self.assertEqual(console.say(line), told, line)
                self.assertEqual(console.say("book"), str(desk.book))
                seen[name, told == "ok"] = seen.get((name, told == "ok"), 0) + 1
                wrong = rng.choice(NO_LINES)
                self.check_error(InvalidLine, {"given": wrong}, console.say, wrong)
                if step % 10 == 0:
                    for line, answer in list(questions(rng, desk.book))[:12]:
                        self.check_line(console, line, answer)
            for _ in range(desk.changes):
                self.assertEqual(console.say("undo"), "ok")
            self.assertEqual([console.say("undo"), console.say("book")], ["NothingToUndo", str(start)])
        for name in ("quote", "drop", "raise_to", "tighten", "news", "undo"):
            self.assertGreater(seen.get((name, True), 0), 5, name)

    def test_two_consoles(self):
        one, two = Console(HALF), Console(HALF)
        self.assertEqual(one.say("drop 0"), "ok")
        self.assertEqual((one.say("book"), two.say("book"), str(HALF)), ("2: 0,1>=1/3", str(HALF), str(HALF)))
        self.assertTrue(one == one and one != two and one != HALF and one)


class Errors(Told, unittest.TestCase):
    def test_no_books(self):
        for value in NO_BOOKS:
            self.check_error_both_ways(NotABook, {"given": value}, Console, "book", value)

    def test_no_lines(self):
        console = Console(HALF)
        console.say("quote 1,1 1/2")
        for line in NO_LINES:
            self.assertFalse(is_line(line), line)
            self.check_error_both_ways(InvalidLine, {"given": line}, console.say, "line", line)
        for value in NO_STRINGS:
            self.check_error_both_ways(InvalidLine, {"given": value}, console.say, "line", value)
        self.assertEqual([console.say("book"), console.say("undo"), console.say("undo")],
                         [str(HALF) + " 1,1>=1/2", "ok", "NothingToUndo"])

    def test_bent_lines(self):
        # Each sign left out, said twice, or another one in its place.
        rng, counts = random.Random(383), {True: 0, False: 0}
        for line in ("quote -12,0,105 -7/12", "drop 10", "raise 0 13/4", "tighten", "news 0,2", "undo", "book", "sound",
                     "least 0,-7", "most 1,10", "chance 0,1", "behind 0,1 -1,20", "needless", "corners", "loss"):
            for at in range(len(line) + 1):
                for sign in ("", " ", "0", "1", "-", "+", ",", "/", ".", "\n", "a", line[at - 1:at]):
                    for other in (line[:at] + sign + line[at:], line[:at] + sign + line[at + 1:]):
                        console = Console(rng.choice((HALF, RAIN)))
                        counts[is_line(other)] += 1
                        if is_line(other):
                            self.assertIs(type(console.say(other)), str)
                        else:
                            self.check_error(InvalidLine, {"given": other}, console.say, other)
                            self.assertEqual(console.say("undo"), "NothingToUndo")
        self.assertGreater(min(counts.values()), 300)


if __name__ == "__main__":
    unittest.main()
