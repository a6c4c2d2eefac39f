"""Consoles: desks by lines of text."""

from softchances.corners import corners
from softchances.desks import Desk
from softchances.errors import InvalidFraction, InvalidIndex, InvalidLine, InvalidLot, InvalidPayoff, Never
from softchances.errors import NotSound, NothingToUndo, TooGreat
from softchances.kinds import is_any_fraction
from softchances.losses import loss
from softchances.news import greatest_behind, least_behind
from softchances.texts import fraction_in, fraction_text, integer_in, numbers_in
from softchances.tight import needless
from softchances.worths import greatest_chance, least_chance

# What stands behind the word of each line: N for integers with commas
# between, I for an integer, F for a fraction.
_FORMS = {"quote": "NF", "drop": "I", "raise": "IF", "tighten": "", "news": "N", "undo": "", "book": "", "sound": "",
          "least": "N", "most": "N", "chance": "N", "behind": "NN", "needless": "", "corners": "", "loss": ""}
_DONE = "ok"


class Console:
    """A desk that is led, and asked, by lines."""

    def __init__(self, book):
        self._desk = Desk(book)

    def say(self, line):
        """The answer to a line."""
        word, pieces = line_parts(line)
        return answered(self._desk, word, pieces)


def line_parts(line):
    """The pair of the word of a line and the tuple of its pieces; InvalidLine if it is none."""
    words = line.split(" ") if isinstance(line, str) else [""]
    form = _FORMS.get(words[0])
    if form is None or len(words) != len(form) + 1:
        raise InvalidLine(line)
    pieces = tuple([piece_in(kind, word) for kind, word in zip(form, words[1:])])
    if None in pieces:
        raise InvalidLine(line)
    return words[0], pieces


def piece_in(kind, word):
    """What a word tells, None if it is none of its kind."""
    if kind == "I":
        return integer_in(word)
    if kind == "F":
        fraction = fraction_in(word)
        return fraction if is_any_fraction(fraction) else None
    numbers = numbers_in(word)
    return None if None in numbers else numbers


def do_quote(desk, payoff, price):
    """A quote more."""
    desk.quote(payoff, price)
    return _DONE


def do_drop(desk, index):
    """A quote goes."""
    desk.drop(index)
    return _DONE


def do_raise(desk, index, price):
    """A quote has another price."""
    desk.raise_to(index, price)
    return _DONE


def do_tighten(desk):
    """Each price becomes a least worth."""
    desk.tighten()
    return _DONE


def do_news(desk, lot):
    """The lot has come."""
    desk.news(lot)
    return _DONE


def do_undo(desk):
    """The last change is taken back."""
    desk.undo()
    return _DONE


def tell_book(desk):
    """The text of the book."""
    return str(desk.book)


def tell_sound(desk):
    """Whether the book is sound."""
    return "yes" if desk.is_sound else "no"


def tell_least(desk, payoff):
    """The least worth."""
    return fraction_text(desk.least(payoff))


def tell_most(desk, payoff):
    """The greatest worth."""
    return fraction_text(desk.greatest(payoff))


def tell_chance(desk, lot):
    """The least and the greatest chance of a lot."""
    return ends_text(least_chance(desk.book, lot), greatest_chance(desk.book, lot))


def tell_behind(desk, lot, payoff):
    """The least and the greatest worth behind the news of a lot."""
    return ends_text(least_behind(desk.book, lot, payoff), greatest_behind(desk.book, lot, payoff))


def tell_needless(desk):
    """The indexes of the needless quotes."""
    indexes = needless(desk.book)
    return " ".join([str(index) for index in indexes]) if len(indexes) > 0 else "none"


def tell_corners(desk):
    """All corners."""
    return " ".join([",".join([fraction_text(share) for share in corner]) for corner in corners(desk.book)])


def tell_loss(desk):
    """The loss of the book."""
    return fraction_text(loss(desk.book))


def ends_text(least, greatest):
    """Two fractions with a space between."""
    return f"{fraction_text(least)} {fraction_text(greatest)}"


_ANSWERS = {"quote": do_quote, "drop": do_drop, "raise": do_raise, "tighten": do_tighten, "news": do_news,
            "undo": do_undo, "book": tell_book, "sound": tell_sound, "least": tell_least, "most": tell_most,
            "chance": tell_chance, "behind": tell_behind, "needless": tell_needless, "corners": tell_corners,
            "loss": tell_loss}


def answered(desk, word, pieces):
    """The answer of the desk, or the name of the error that comes."""
    answer = _ANSWERS[word]
    try:
        return answer(desk, *pieces)
    except InvalidPayoff:
        return "InvalidPayoff"
    except InvalidFraction:
        return "InvalidFraction"
    except InvalidIndex:
        return "InvalidIndex"
    except InvalidLot:
        return "InvalidLot"
    except NotSound:
        return "NotSound"
    except Never:
        return "Never"
    except TooGreat:
        return "TooGreat"
    except NothingToUndo:
        return "NothingToUndo"
