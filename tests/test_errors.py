import unittest

from softchances import errors
from tests.tools import RAIN

GIVEN = ("InvalidText", "InvalidName", "InvalidNumber", "InvalidPayoff", "InvalidLot", "InvalidFraction",
         "InvalidWish", "InvalidIndex", "InvalidLine", "NotABook")
INDEX = ("InvalidChance", "InvalidQuotes", "InvalidSale", "InvalidBounds", "InvalidMasses", "InvalidRanges",
         "InvalidOrder", "InvalidQuestion", "InvalidSayings", "InvalidActs", "InvalidWalk", "InvalidDeeds")
PLAIN = ("NotSound", "Never", "TotalClash", "Unlike", "NothingToUndo")
LISTED = {
    **{name: ("WrongValue", "given") for name in GIVEN},
    **{name: ("WrongValue", "index") for name in INDEX},
    "UnknownName": ("WrongName", "given"),
    **{name: ("NoAnswer", None) for name in PLAIN},
    "TooGreat": ("NoAnswer", "given"), "Broken": ("NoAnswer", "index"), "InUse": ("NoAnswer", "index"),
}
BASES = {"WrongValue": ValueError, "WrongName": LookupError, "NoAnswer": ArithmeticError}
VALUES = (None, 0, 33, -1, True, "text", "", b"x", (), (1, (2, 3)), [1], {}, RAIN, object(), 10 ** 79, ValueError)


class Errors(unittest.TestCase):
    def test_no_other_class(self):
        classes = {name for name, value in vars(errors).items() if isinstance(value, type)}
        self.assertEqual(classes, set(LISTED) | set(BASES))

    def test_bases(self):
        for name, base in BASES.items():
            self.assertEqual(getattr(errors, name).__bases__, (base,))
            self.assertIsInstance(getattr(errors, name)(), base)
        for name, (base, _) in LISTED.items():
            self.assertEqual(getattr(errors, name).__bases__, (getattr(errors, base),))

    def test_under_no_other_class(self):
        for name, (base, _) in LISTED.items():
            over = [other for other in set(LISTED) | set(BASES)
                    if other != name and issubclass(getattr(errors, name), getattr(errors, other))]
            self.assertEqual(over, [base])

    def test_attributes(self):
        for name, (_, attribute) in LISTED.items():
            made = getattr(errors, name)
            if attribute is None:
                self.assertEqual(vars(made()), {})
                continue
            for value in VALUES:
                for error in (made(value), made(**{attribute: value})):
                    self.assertEqual(list(vars(error)), [attribute])
                    self.assertIs(getattr(error, attribute), value)
            with self.assertRaises(TypeError):
                made()

    def test_raised_and_caught(self):
        for name, (base, attribute) in LISTED.items():
            made = getattr(errors, name)
            for caught in (made, getattr(errors, base), BASES[base]):
                with self.assertRaises(caught):
                    raise made() if attribute is None else made((1, 2))


if __name__ == "__main__":
    unittest.main()
