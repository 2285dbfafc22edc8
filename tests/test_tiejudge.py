import itertools
import unittest

from lotsandties.errors import BadValue
from lotsandties.tiebooks import TieBook
from lotsandties.tiejudge import tie_closed, tie_is_right, tie_least, tie_shortest
from lotsandties.tietable import tie_after, tie_bad, tie_letters, tie_start

FULL = TieBook.full()
BOOKS = [TieBook.of_number(number) for number in range(32)]


def without(*rules):
    return FULL - TieBook(rules)


def texts(books):
    return [book.text() for book in books]


def closed(book, entries):
    """The standings of point 121, and the first faulty life, in plain words."""
    row, lives, fault = [tie_start(entries)], {tie_start(entries): []}, None
    for standing in row:
        for letter in tie_letters(entries):
            found = tie_after(standing, letter, book)
            if found is None:
                continue
            if tie_bad(found, book):
                fault = fault if fault is not None else lives[standing] + [letter]
            elif found not in lives:
                lives[found] = lives[standing] + [letter]
                row.append(found)
    return row, fault


def shortest(book, entries, most):
    """The first of the shortest faulty lives of up to some letters, by trying all lives in order."""
    lives = [([], tie_start(entries))]
    for _ in range(most):
        longer = []
        for life, standing in lives:
            for letter in tie_letters(entries):
                found = tie_after(standing, letter, book)
                if found is not None and tie_bad(found, book):
                    return life + [letter]
                if found is not None:
                    longer.append((life + [letter], found))
        lives = longer
    return None


class TieJudgeTest(unittest.TestCase):
    def test_all_books(self):
        for book, entries in itertools.product(BOOKS, (1, 2, 3)):
            row, fault = closed(book, entries)
            self.assertEqual(tie_closed(book, entries=entries), row)
            self.assertEqual(tie_shortest(book, entries=entries), fault)
            self.assertIs(tie_is_right(book, entries=entries), fault is None)
            self.assertEqual(len(set(row)), len(row))

    def test_two_entries_are_meant_if_none_are_named(self):
        for book in BOOKS[::5]:
            self.assertEqual(tie_closed(book), tie_closed(book, entries=2))
            self.assertEqual(tie_shortest(book), tie_shortest(book, entries=2))
            self.assertEqual(tie_is_right(book), tie_is_right(book, entries=2))
        self.assertEqual(texts(tie_least(TieBook.RULES)), texts(tie_least(TieBook.RULES, entries=2)))

    def test_right_books(self):
        right = [book.text() for book in BOOKS if tie_is_right(book)]
        self.assertEqual(right, ["first after keep told", "keep numbered told", "first keep numbered told",
                                 "after keep numbered told", "first after keep numbered told"])
        self.assertEqual(right, [book.text() for book in BOOKS if tie_is_right(book, entries=3)])
        # With one entry a node cannot be moved, so nothing need be kept.
        self.assertEqual([book.text() for book in BOOKS if tie_is_right(book, entries=1)],
                         ["first after told", "first after keep told", "numbered told", "first numbered told",
                          "after numbered told", "first after numbered told", "keep numbered told",
                          "first keep numbered told", "after keep numbered told", "first after keep numbered told"])

    def test_shortest_faulty_lives(self):
        self.assertEqual(tie_shortest(without("told")), [("make", 0), ("told",)])
        self.assertEqual(tie_shortest(without("keep")), [("make", 0), ("out_node",), ("out_entry", 0), ("told",),
                                                         ("move", 0, 1), ("out_entry", 0)])
        self.assertIsNone(tie_shortest(FULL))
        self.assertIsNone(tie_shortest(without("keep"), entries=1))
        for book in (without("numbered", "first"), without("numbered", "after"), TieBook(("told",)), TieBook(())):
            life = tie_shortest(book)
            self.assertEqual(life, shortest(book, 2, len(life)))
            self.assertEqual(tie_shortest(book, entries=1), shortest(book, 1, 6))

    def test_standings_come_in_the_order_of_letters(self):
        self.assertEqual(tie_closed(FULL)[:4], [
            tie_start(2),
            (1, (1, 0), "u", ("-", "-"), 0),
            (1, (0, 1), "u", ("-", "-"), 0),
            (1, (1, 1), "u", ("-", "-"), 0),
        ])

    def test_least_books(self):
        self.assertEqual(texts(tie_least(TieBook.RULES)), ["first after keep told", "keep numbered told"])
        self.assertEqual(texts(tie_least(TieBook.RULES, entries=3)), ["first after keep told", "keep numbered told"])
        self.assertEqual(texts(tie_least(TieBook.RULES, entries=1)), ["first after told", "numbered told"])
        self.assertEqual(texts(tie_least(["told", "numbered", "keep", "told"])), ["keep numbered told"])
        self.assertEqual(texts(tie_least(("keep", "after", "told", "first"))), ["first after keep told"])
        self.assertEqual(tie_least(["told", "numbered"]), [])
        self.assertEqual(tie_least([]), [])
        self.assertEqual(texts(tie_least(["numbered", "told"] * 4, entries=1)), ["numbered told"])

    def test_least_books_by_trying_all(self):
        for many, entries in itertools.product(range(6), (1, 2)):
            for names in itertools.combinations(TieBook.RULES, many):
                right = [set(book) for book in BOOKS if set(book) <= set(names) and tie_is_right(book, entries=entries)]
                least = [rules for rules in right if not any(other < rules for other in right)]
                numbers = [book.number for book in tie_least(names, entries=entries)]
                self.assertEqual(numbers, sorted(TieBook(sorted(rules)).number for rules in least))

    def test_wrong_values(self):
        for entries in (0, 4, 8, -1):
            for step in (tie_closed, tie_shortest, tie_is_right):
                with self.assertRaises(BadValue):
                    step(FULL, entries=entries)
            with self.assertRaises(BadValue):
                tie_least(["told"], entries=entries)
            with self.assertRaises(BadValue):
                tie_least([], entries=entries)
        for names in (["copies"], ("told", "Keep"), [""], ["none"]):
            with self.assertRaises(BadValue):
                tie_least(names)

    def test_returned_lists_are_new(self):
        for step in (tie_closed, tie_shortest):
            book = without("told")
            before = list(step(book))
            step(book).clear()
            self.assertEqual(step(book), before)
        names = ["told", "keep"]
        tie_least(names)
        self.assertEqual(names, ["told", "keep"])


if __name__ == "__main__":
    unittest.main()
