import random
import unittest

from storing import RIGHT_BOOKS, without

from lotsandties.books import Book
from lotsandties.errors import BadValue
from lotsandties.judge import is_right
from lotsandties.sorting import least_books, mends

FULL = Book.full()
CORE = "copies mark words room told".split()


def texts(books):
    return [book.text() for book in books]


def plain_least(base, names):
    """Point 106 by trying all books."""
    right = []
    for number in range(4096):
        rules = set(Book.of_number(number))
        if set(base) <= rules <= set(base) | set(names) and is_right(Book.of_number(number)):
            right.append(rules)
    least = [rules for rules in right if not any(other < rules for other in right)]
    return sorted(Book(sorted(rules)).number for rules in least)


class LeastBooksTest(unittest.TestCase):
    def test_examples(self):
        base = Book(CORE + ["reuse"])
        found = least_books(base, ("revoke", "lapse", "frozen", "wait"))
        self.assertEqual(texts(found), [RIGHT_BOOKS[0], RIGHT_BOOKS[4]])
        found = least_books(Book(CORE + ["shelve"]), ["late", "reuse", "wait", "frozen"])
        self.assertEqual(texts(found), [RIGHT_BOOKS[2], RIGHT_BOOKS[3], RIGHT_BOOKS[6], RIGHT_BOOKS[7]])
        self.assertEqual([book.number for book in found], sorted(book.number for book in found))
        self.assertEqual(least_books(Book(()), ["copies", "mark", "words", "told"]), [])

    def test_a_right_base_is_the_only_one(self):
        for base in (FULL, Book.read(RIGHT_BOOKS[1])):
            for names in ((), ("frozen", "wait"), ["reuse"] * 4):
                self.assertEqual(texts(least_books(base, names)), [base.text()])

    def test_order_and_duplicates_of_names(self):
        base = without("frozen", "wait", "told")
        wanted = texts([without("wait"), without("frozen")])
        for names in (("frozen", "wait", "told"), ["told", "wait", "frozen"], ["wait", "told", "frozen", "wait"],
                      ("copies", "told", "wait", "frozen")):
            kept = list(names)
            self.assertEqual(sorted(texts(least_books(base, names))), sorted(wanted))
            self.assertEqual(list(names), kept)
            numbers = [book.number for book in least_books(base, names)]
            self.assertEqual(numbers, sorted(numbers))

    def test_by_trying_all_books(self):
        chance = random.Random(3)
        for _ in range(12):
            names = chance.sample(Book.RULES, 4)
            base = without(*chance.sample(Book.RULES, chance.choice((3, 4, 5))))
            self.assertEqual([book.number for book in least_books(base, names)], plain_least(base, names))

    def test_a_right_book_above_a_wrong_one_above_a_right_one(self):
        # revoke is wrong without lapse: one rule more can make a right book wrong.
        base = Book(CORE + ["reuse", "shelve", "frozen"])
        self.assertTrue(is_right(base))
        self.assertFalse(is_right(base | Book(("revoke",))))
        self.assertTrue(is_right(base | Book(("revoke", "lapse"))))
        self.assertEqual(texts(least_books(base, ("revoke", "lapse"))), [base.text()])
        found = least_books(base | Book(("revoke",)), ("lapse",))
        self.assertEqual(texts(found), [(base | Book(("revoke", "lapse"))).text()])

    def test_wrong_names(self):
        for names in (["none"], ("copies", "Mark"), ["told", ""], ["first"], ("copies", "mark", "words", "room", "told"),
                      ["told"] * 5, ["a", "b", "c", "d", "e"]):
            with self.assertRaises(BadValue):
                least_books(FULL, names)


class MendsTest(unittest.TestCase):
    def test_right_books(self):
        for text in RIGHT_BOOKS:
            self.assertEqual(mends(Book.read(text)), [()])

    def test_one_rule(self):
        self.assertEqual(mends(without("told")), [("told",)])
        self.assertEqual(mends(without("frozen", "wait")), [("frozen",), ("wait",)])
        self.assertEqual(mends(without("reuse", "late")), [("reuse",), ("late",)])
        self.assertEqual(mends(without("revoke", "shelve")), [("revoke",), ("shelve",)])

    def test_pairs(self):
        self.assertEqual(mends(without("told", "copies")), [("copies", "told")])
        self.assertEqual(mends(without("room", "frozen", "wait")), [("frozen", "room"), ("wait", "room")])
        # One rule that mends alone is in no pair; here only shelve does alone.
        self.assertEqual(mends(Book(CORE + ["late", "frozen"])), [("shelve",), ("revoke", "lapse")])
        self.assertEqual(mends(without("reuse", "late", "frozen", "wait")),
                         [("reuse", "frozen"), ("reuse", "wait"), ("late", "frozen"), ("late", "wait")])

    def test_books_that_need_more(self):
        self.assertEqual(mends(Book(())), [])
        self.assertEqual(mends(without("copies", "room", "told")), [])

    def test_by_trying_all_books(self):
        chance = random.Random(8)
        for _ in range(20):
            book = without(*chance.sample(Book.RULES, chance.choice((1, 2, 3, 4))))
            lacking = [rule for rule in Book.RULES if rule not in book]
            alone = [(rule,) for rule in lacking if is_right(book | Book([rule]))]
            pairs = [(rule, other) for rule in lacking for other in lacking if Book.RULES.index(rule)
                     < Book.RULES.index(other) and (rule,) not in alone and (other,) not in alone
                     and is_right(book | Book([rule, other]))]
            self.assertEqual(mends(book), [()] if is_right(book) else alone + pairs)


if __name__ == "__main__":
    unittest.main()
