import itertools
import unittest

from lotsandties.errors import BadText, BadValue
from lotsandties.rulesets import RuleSet
from lotsandties.tiebooks import TieBook

ROW = ("first", "after", "keep", "numbered", "told")


class TieBooksTest(unittest.TestCase):
    def test_the_row(self):
        self.assertEqual(TieBook.RULES, ROW)
        self.assertTrue(issubclass(TieBook, RuleSet))
        self.assertEqual(TieBook.full().names, ROW)
        self.assertEqual(TieBook.full().number, 31)

    def test_names_and_numbers(self):
        book = TieBook(["told", "first", "told"])
        self.assertEqual(book.names, ("first", "told"))
        self.assertEqual(book.number, 17)
        self.assertEqual(list(book), ["first", "told"])
        self.assertIn("told", book)
        self.assertNotIn("after", book)
        self.assertNotIn("copies", book)
        self.assertEqual(TieBook(()).names, ())
        for names in (["copies"], ("first", "Told"), [""], ["none"]):
            with self.assertRaises(BadValue):
                TieBook(names)

    def test_all_books(self):
        for number in range(32):
            book = TieBook.of_number(number)
            self.assertIs(type(book), TieBook)
            self.assertEqual(book.number, number)
            self.assertEqual(book.names, tuple(rule for k, rule in enumerate(ROW) if number // 2 ** k % 2))
            self.assertEqual(book.text(), " ".join(book.names) or "none")
            self.assertEqual(TieBook.read(book.text()).number, number)
        for number in (-1, 32, 4095):
            with self.assertRaises(BadValue):
                TieBook.of_number(number)

    def test_wrong_texts(self):
        for text in ("", " ", "told first", "first first", "first  told", "first ", "None", "none told", "copies",
                     "first\ntold", "First"):
            with self.assertRaises(BadText):
                TieBook.read(text)

    def test_operators(self):
        for one, other in itertools.product(range(0, 32, 3), range(32)):
            first, second = TieBook.of_number(one), TieBook.of_number(other)
            joined, left = first | second, first - second
            self.assertIs(type(joined), TieBook)
            self.assertIs(type(left), TieBook)
            self.assertEqual(joined.number, one | other)
            self.assertEqual(left.number, one & ~other)
            self.assertEqual((first.number, second.number), (one, other))


if __name__ == "__main__":
    unittest.main()
