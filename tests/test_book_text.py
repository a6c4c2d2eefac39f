import unittest

from softchances.books import Book
from softchances.errors import InvalidText
from tests.tools import ODD_VALUES, Told, some_books

GOOD = ("2:", "6:", "2: 1,0>=1/3", "2: 1,0>=1/3 0,1>=1/3", "3: 1,0,0>=1/3 0,1,-2>=-1/4", "2: -1,-10>=-7/2",
        "2: 0,0>=0/1", "2: 1000,-1000>=1000000/999", "2: 0,0>=-1000000/1", "2: 1,0>=2/1", "2: 1,0>=1/1000",
        "6: 0,1,2,3,4,5>=5/2", "2:" + " 1,0>=1/3" * 32, "2: 1,0>=1/3 1,0>=1/3")

# Each of these is close to the text of a book.
NO_TEXTS = (
    "", " ", ":", "2", "2 ", " 2:", "2: ", "2:\n", "\n2:", "2 :", "2::", "1:", "7:", "0:", "-2:", "+2:", "02:", "2.0:",
    "10:", "x:", "2; 1,0>=1/3", "2 1,0>=1/3", ": 1,0>=1/3", "1,0>=1/3", "2: 2:", "2:2:", "22:", "2:1,0>=1/3",
    "2:  1,0>=1/3", " 2: 1,0>=1/3", "2: 1,0>=1/3 ", "2: 1,0>=1/3  0,1>=1/3", "2: 1,0>=1/3\n0,1>=1/3",
    "2: 1, 0>=1/3", "2: 1 ,0>=1/3", "2: 1,0 >=1/3", "2: 1,0>= 1/3", "2: 1,0>=1 /3", "2: 1,0>=1/ 3", "2: 1,0> =1/3",
    "2: 1,0>=1/3,0,1>=1/3", "2: 1,0>=1/30,1>=1/3", "2: 1,0>=1/3;0,1>=1/3",
    "2: 01,0>=1/3", "2: 1,00>=1/3", "2: 1,-0>=1/3", "2: +1,0>=1/3", "2: --1,0>=1/3", "2: 1-,0>=1/3", "2: -,0>=1/3",
    "2: 1.0,0>=1/3", "2: 1e0,0>=1/3", "2: 1_0,0>=1/3", "2: 0x1,0>=1/3", "2: x,0>=1/3", "2: ,0>=1/3", "2: 1,>=1/3",
    "2: 1,0,>=1/3", "2: ,1,0>=1/3", "2: 1,,0>=1/3", "2: 1>=1/3", "2: 1,0,0>=1/3", "2: >=1/3", "2: (1,0)>=1/3",
    "2: 1001,0>=1/3", "2: 0,-1001>=1/3", "3: 1,0>=1/3", "2: 1,0>=1/3 1,0,0>=1/3", "2: True,0>=1/3", "2: None,0>=1/3",
    "2: 1,0", "2: 1,0>=", "2: 1,0>=1", "2: 1,0>=1/", "2: 1,0>=/3", "2: 1,0>=/", "2: 1,0=1/3", "2: 1,0>1/3",
    "2: 1,0=>1/3", "2: 1,0<=1/3", "2: 1,0>==1/3", "2: 1,0>=>=1/3", "2: 1,0>=1/3>=1/3", "2: 1,0>=1/3/1", "2: 1,0>=1//3",
    "2: 1,0>=0.5", "2: 1,0>=1:3", "2: 1,0>=+1/3", "2: 1,0>=01/3", "2: 1,0>=1/03", "2: 1,0>=1/+3", "2: 1,0>=-0/1",
    "2: 1,0>=1/-3", "2: 1,0>=-1/-3", "2: 1,0>=2/4", "2: 1,0>=0/2", "2: 1,0>=-2/2", "2: 1,0>=3/3", "2: 1,0>=1/0",
    "2: 1,0>=0/0", "2: 1,0>=--1/3", "2: 1,0>=1000001/1", "2: 1,0>=-1000001/1", "2: 1,0>=1/1001",
    "2: 1,0>=1000002/2", "2: 1,0>=1/3 x", "2: 1,0>=1/3 2", "2: 1,0>=1/3 0,1", "2: 1,0>=1/3 >=1/3", "2:" + " 1,0>=1/3" * 33,
    "2:" + " 1,0>=1/3" * 60, "2:" + " 1,0>=1/3" * 31 + "  1,0>=1/3", "2: 1,0>=1/3" + "0" * 70, "2: " + "9" * 79 + ",0>=1/3",
    "9" * 79 + ":", "2: quotes", "Book of 0 quotes", "two:", "2: 1,0>=1/3.", "2:.", "2: >=", "2: ,>=/", "2: /", "2: -", "2:-")


class Reading(Told, unittest.TestCase):
    def test_texts_of_books(self):
        for text in GOOD:
            for book in (Book.read(text), Book.read(text=text)):
                self.assertIs(type(book), Book)
                self.assertEqual(str(book), text)

    def test_by_hand(self):
        book = Book.read("3: 1,0,0>=1/3 0,1,-2>=-1/4 5,5,5>=2/1")
        self.assertEqual(book.outcomes, 3)
        self.assertEqual(book.quotes, (((1, 0, 0), (1, 3)), ((0, 1, -2), (-1, 4)), ((5, 5, 5), (2, 1))))
        self.assertEqual((Book.read("4:").outcomes, Book.read("4:").quotes), (4, ()))

    def test_there_and_back(self):
        for book in some_books(2, sound=False):
            again = Book.read(str(book))
            self.assertEqual(again, book)
            self.assertEqual((again.outcomes, again.quotes), (book.outcomes, book.quotes))

    def test_off_an_object(self):
        self.assertEqual(Book(2, ()).read("3:"), Book(3, ()))

    def test_no_texts(self):
        for text in NO_TEXTS:
            self.check_error_both_ways(InvalidText, {"given": text}, Book.read, "text", text)

    def test_no_strings(self):
        for value in ODD_VALUES + (b"2:", ("2:",), ["2:"], 2, Book, ("2:", "1,0>=1/3")):
            self.check_error_both_ways(InvalidText, {"given": value}, Book.read, "text", value)

    def test_one_character_more_or_less(self):
        text = "3: 1,0,0>=1/3 0,10,-2>=-12/7"
        near = [text[:at] + text[at + 1:] for at in range(len(text))]
        near += [text[:at] + sign + text[at:] for at in range(len(text) + 1) for sign in " ,:>=/-+0"]
        near += [text[:at] + sign + text[at + 1:] for at in range(len(text)) for sign in " ,:>=/-0"]
        read = 0
        for other in near:
            try:
                book = Book.read(other)
            except InvalidText as error:
                self.assertIs(error.given, other)
            else:
                read += 1
                self.assertEqual(str(book), other)
        self.assertGreater(read, 5)
        self.assertLess(read, len(near) // 4)


if __name__ == "__main__":
    unittest.main()
