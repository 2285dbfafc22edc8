"""Points 10 and 11: rule sets and books of rules."""

import unittest

from lotsandties.books import Book
from lotsandties.errors import BadText, BadValue
from lotsandties.rulesets import RuleSet

ROW = tuple("copies mark words reuse late revoke lapse shelve frozen wait room told".split())


class Colours(RuleSet):
    RULES = ("red", "green", "blue")


class RuleSetTest(unittest.TestCase):
    def test_the_row_of_the_class(self):
        self.assertEqual(RuleSet.RULES, ())
        empty = RuleSet([])
        self.assertEqual((empty.names, empty.number, empty.text(), list(empty)), ((), 0, "none", []))
        with self.assertRaises(BadValue):
            RuleSet(["told"])

    def test_names_in_the_order_of_the_row(self):
        names = ["blue", "red", "blue"]
        colours = Colours(names)
        self.assertEqual(colours.names, ("red", "blue"))
        self.assertEqual(colours.number, 5)
        self.assertEqual(list(colours), ["red", "blue"])
        self.assertEqual(colours.text(), "red blue")
        self.assertEqual(names, ["blue", "red", "blue"])
        self.assertEqual(Colours(("green",)).number, 2)

    def test_in(self):
        colours = Colours(["green"])
        self.assertIs("green" in colours, True)
        self.assertIs("red" in colours, False)
        self.assertIs("gold" in colours, False)
        self.assertIs("red" not in colours, True)

    def test_unknown_names(self):
        for names in (["gold"], ["red", "gold"], ("Red",), [""], ["none"], ["red green"]):
            with self.assertRaises(BadValue):
                Colours(names)


class BookTest(unittest.TestCase):
    def test_row(self):
        self.assertEqual(Book.RULES, ROW)
        self.assertTrue(issubclass(Book, RuleSet))

    def test_all_numbers(self):
        for number in range(4096):
            book = Book.of_number(number)
            self.assertEqual(book.number, number)
            self.assertEqual(book.names, tuple(ROW[k] for k in range(12) if number // 2 ** k % 2))
        for number in range(0, 4096, 7):
            book = Book.of_number(number)
            self.assertEqual(Book.read(book.text()).number, number)
            self.assertEqual(Book(list(reversed(book.names))).number, number)

    def test_numbers_of_single_rules(self):
        for k, rule in enumerate(ROW):
            self.assertEqual(Book([rule]).number, 2 ** k)

    def test_numbers_out_of_bounds(self):
        self.assertEqual(Book.of_number(0).names, ())
        self.assertEqual(Book.of_number(4095).names, ROW)
        for number in (-1, 4096, 10 ** 20, -4096):
            with self.assertRaises(BadValue):
                Book.of_number(number)

    def test_full(self):
        book = Book.full()
        self.assertIsInstance(book, Book)
        self.assertEqual((book.names, book.number, book.text()), (ROW, 4095, " ".join(ROW)))

    def test_read(self):
        book = Book.read("copies late told")
        self.assertIsInstance(book, Book)
        self.assertEqual(book.names, ("copies", "late", "told"))
        self.assertEqual(Book.read("none").names, ())

    def test_read_other_texts(self):
        for text in ("", " ", "late copies", "copies copies", "copies  late", " copies", "copies ", "none none",
                     "copies none", "none copies", "Copies", "copies\n", "first", "copies first", "None"):
            with self.assertRaises(BadText, msg=text):
                Book.read(text)

    def test_or_and_minus(self):
        first = Book(["copies", "late", "told"])
        second = Book(["late", "mark"])
        both = first | second
        less = first - second
        self.assertIsInstance(both, Book)
        self.assertIsInstance(less, Book)
        self.assertEqual(both.names, ("copies", "mark", "late", "told"))
        self.assertEqual(both.number, first.number | second.number)
        self.assertEqual(less.names, ("copies", "told"))
        self.assertEqual((second - first).names, ("mark",))
        self.assertEqual((first - first).text(), "none")
        self.assertEqual(first.names, ("copies", "late", "told"))
        self.assertEqual(second.names, ("mark", "late"))

    def test_or_and_minus_give_new_books(self):
        book = Book.full()
        self.assertIsNot(book | book, book)
        self.assertIsNot(book - Book([]), book)

    def test_unknown_rules(self):
        for names in (["first"], ["copies", "tell"], [""]):
            with self.assertRaises(BadValue):
                Book(names)


if __name__ == "__main__":
    unittest.main()
