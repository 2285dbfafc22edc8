import random
import unittest

from storing import without

from lotsandties.books import Book
from lotsandties.letters import after
from lotsandties.partings import parting, plain_book
from lotsandties.standings import LETTERS, START, is_bad

FULL = Book.full()
NONE = Book(())


def parts(life, book, other):
    """Tell if a life parts two books, by the words of point 107."""
    standing = START
    for letter in life[:-1]:
        standing, same = after(standing, letter, book), after(standing, letter, other)
        if standing is None or standing != same or is_bad(standing):
            return False
    return after(standing, life[-1], book) != after(standing, life[-1], other)


def first_parting(book, other, length):
    """The first life of up to some letters that parts two books, by plain enumeration."""
    layer = [([], START)]
    for _ in range(length):
        behind = []
        for life, standing in layer:
            for letter in LETTERS:
                found, same = after(standing, letter, book), after(standing, letter, other)
                if found != same:
                    return life + [letter]
                if found is not None and not is_bad(found):
                    behind.append((life + [letter], found))
        layer = behind
    return None


class PartingTest(unittest.TestCase):
    def test_let_under_one_alone(self):
        self.assertEqual(parting(FULL, without("told")), ["takel", "told"])
        self.assertEqual(parting(without("told"), FULL), ["takel", "told"])
        self.assertEqual(parting(FULL, without("mark")), ["takel", "early"])
        self.assertEqual(parting(FULL, without("copies")), ["takel", "close", "mark"])
        self.assertEqual(parting(FULL, without("wait")), ["takel", "close", "change"])
        self.assertEqual(parting(FULL, without("room")), ["takel", "close", "copy", "mark", "room"])

    def test_let_under_both_with_different_standings(self):
        book, other = without("wait"), without("wait", "frozen")
        self.assertEqual(parting(book, other), ["takel", "close", "change", "copy"])

    def test_different_at_a_bad_standing(self):
        # Under both the last letter leads to a bad standing, but not to the same one.
        book = Book(("mark", "words", "room", "told"))
        other = book | Book(("revoke",))
        life = parting(book, other)
        self.assertTrue(parts(life, book, other))
        self.assertEqual(life, first_parting(book, other, 9))

    def test_no_life_goes_on_behind_a_bad_standing(self):
        # Without the rule copies a mark may lead to a bad standing; what is let behind it parts no books.
        book = NONE
        for other in (Book(("lapse",)), Book(("frozen",))):
            life = parting(book, other)
            if life is not None:
                self.assertTrue(parts(life, book, other))
        self.assertIsNone(parting(NONE, Book(("lapse",))))

    def test_alike_books(self):
        for book in (FULL, NONE, without("told")):
            self.assertIsNone(parting(book, book))
            self.assertIsNone(parting(book, Book(book.names)))
        self.assertIsNone(parting(FULL, without("frozen")))
        self.assertIsNone(parting(FULL, without("late")))

    def test_by_enumeration(self):
        chance = random.Random(6)
        for _ in range(60):
            book = Book.of_number(chance.randrange(4096))
            other = Book.of_number(book.number ^ (1 << chance.randrange(12)))
            life = parting(book, other)
            first = first_parting(book, other, 4)
            if life is None or len(life) > 4:
                self.assertIsNone(first)
            else:
                self.assertEqual(life, first)
            if life is not None:
                self.assertTrue(parts(life, book, other))
                self.assertEqual(parting(other, book), life)


class PlainBookTest(unittest.TestCase):
    def test_examples(self):
        self.assertEqual(plain_book(FULL).text(), "copies mark words reuse revoke lapse wait room told")
        self.assertEqual(plain_book(NONE).text(), "none")
        self.assertEqual(plain_book(Book(("lapse",))).text(), "none")
        self.assertEqual(plain_book(Book(("told", "mark"))).text(), "mark told")

    def test_by_its_words(self):
        chance = random.Random(9)
        for _ in range(40):
            book = Book.of_number(chance.randrange(4096))
            names = book.names
            left = list(names)
            for rule in names:
                fewer = [name for name in left if name != rule]
                if parting(Book(fewer), Book(left)) is None:
                    left = fewer
            self.assertEqual(plain_book(book).names, tuple(left))
            self.assertEqual(book.names, names)
            self.assertIsNone(parting(book, plain_book(book)))


if __name__ == "__main__":
    unittest.main()
