"""All errors that this package raises.

Each class says by itself what it keeps: the document lets no class stand
between an error and the base under which it is listed.
"""


class WrongValue(ValueError):
    """A value was passed that is not let."""


class InvalidText(WrongValue):
    """A text that is none of a book."""

    def __init__(self, given):
        self.given = given


class InvalidName(WrongValue):
    """A value that is no name for a shelf."""

    def __init__(self, given):
        self.given = given


class InvalidNumber(WrongValue):
    """A value that is no integer of those that are let."""

    def __init__(self, given):
        self.given = given


class InvalidPayoff(WrongValue):
    """A value that is no payoff for the outcomes."""

    def __init__(self, given):
        self.given = given


class InvalidLot(WrongValue):
    """A value that is no lot of the outcomes."""

    def __init__(self, given):
        self.given = given


class InvalidFraction(WrongValue):
    """A value that is no fraction, share or price that is let."""

    def __init__(self, given):
        self.given = given


class InvalidWish(WrongValue):
    """A value that is no wish."""

    def __init__(self, given):
        self.given = given


class InvalidIndex(WrongValue):
    """A value that is no index of what there is."""

    def __init__(self, given):
        self.given = given


class InvalidLine(WrongValue):
    """A line that a console does not know."""

    def __init__(self, given):
        self.given = given


class NotABook(WrongValue):
    """A value that is no book."""

    def __init__(self, given):
        self.given = given


class InvalidChance(WrongValue):
    """Where a value fails to be a chance."""

    def __init__(self, index):
        self.index = index


class InvalidQuotes(WrongValue):
    """Where a value fails to be the quotes of a book."""

    def __init__(self, index):
        self.index = index


class InvalidSale(WrongValue):
    """Where a value fails to be a sale."""

    def __init__(self, index):
        self.index = index


class InvalidBounds(WrongValue):
    """Where a value fails to be bounds."""

    def __init__(self, index):
        self.index = index


class InvalidMasses(WrongValue):
    """Where a value fails to be masses."""

    def __init__(self, index):
        self.index = index


class InvalidRanges(WrongValue):
    """Where a value fails to be ranges or beginnings."""

    def __init__(self, index):
        self.index = index


class InvalidOrder(WrongValue):
    """Where a value fails to be an order of the outcomes."""

    def __init__(self, index):
        self.index = index


class InvalidQuestion(WrongValue):
    """Where a value fails to be a question."""

    def __init__(self, index):
        self.index = index


class InvalidSayings(WrongValue):
    """Where a value fails to be sayings."""

    def __init__(self, index):
        self.index = index


class InvalidActs(WrongValue):
    """Where a value fails to be acts."""

    def __init__(self, index):
        self.index = index


class InvalidWalk(WrongValue):
    """Where a value fails to be a walk."""

    def __init__(self, index):
        self.index = index


class InvalidDeeds(WrongValue):
    """Where values fail to be deeds."""

    def __init__(self, index):
        self.index = index


class WrongName(LookupError):
    """A name was told that is not there."""


class UnknownName(WrongName):
    """A value that is no name of the shelf."""

    def __init__(self, given):
        self.given = given


class NoAnswer(ArithmeticError):
    """What was asked has no answer, or must not be done."""


class NotSound(NoAnswer):
    """No chance keeps what must be kept."""


class Never(NoAnswer):
    """What is told can not come with a chance above 0."""


class TotalClash(NoAnswer):
    """Masses that are put together leave nothing."""


class Unlike(NoAnswer):
    """Two books have not as many outcomes."""


class TooGreat(NoAnswer):
    """A number or a fraction that is beyond what is let."""

    def __init__(self, given):
        self.given = given


class Broken(NoAnswer):
    """The first wish that would not hold."""

    def __init__(self, index):
        self.index = index


class InUse(NoAnswer):
    """The first wish that names what should go."""

    def __init__(self, index):
        self.index = index


class NothingToUndo(NoAnswer):
    """There is no change that can be taken back."""
