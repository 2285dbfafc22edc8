import random
import unittest

from storing import RIGHT_BOOKS, without

from lotsandties.books import Book
from lotsandties.judge import Table, is_right
from lotsandties.letters import after, standings_along
from lotsandties.standings import LETTERS, LOST, START, is_bad, is_standing

FULL = Book.full()
ALL_BOOKS = [Book.of_number(number) for number in range(4096)]


def lives_by_length(book, length):
    """All sound and all faulty lives of up to some letters, in the order of point 104, by plain enumeration."""
    sound, faulty = [[]], []
    layer = [([], START)]
    for _ in range(length):
        behind = []
        for life, standing in layer:
            for letter in LETTERS:
                found = after(standing, letter, book)
                if found is not None:
                    (faulty if is_bad(found) else sound).append(life + [letter])
                    if not is_bad(found):
                        behind.append((life + [letter], found))
        layer = behind
    return sound, faulty


class JudgeTest(unittest.TestCase):
    def test_the_full_book(self):
        table = Table(FULL)
        self.assertIs(table.right, True)
        self.assertIs(table.book, FULL)
        self.assertIsNone(table.shortest())
        self.assertEqual(table.closed()[0], START)
        self.assertEqual(table.life_to(START), [])
        self.assertIn(START, table)
        self.assertNotIn(LOST, table)
        self.assertIsNone(table.life_to(LOST))
        self.assertNotIn(tuple("L-=o--"), table)
        self.assertIsNone(table.life_to(tuple("L-=o--")))
        # A standing that is good, but that the full book never comes to.
        self.assertNotIn(tuple("F-LR--"), table)
        self.assertIsNone(table.life_to(tuple("F-LR--")))
        self.assertIn(tuple("F-LR--"), Table(without("mark")))

    def test_the_empty_book(self):
        table = Table(Book(()))
        self.assertIs(table.right, False)
        self.assertIs(is_right(Book(())), False)
        self.assertEqual(table.shortest(), ["takel", "told"])

    def test_shortest_faulty_lives(self):
        for rules, life in (
            (("told",), "takel told"),
            (("copies",), "takel close mark"),
            (("words",), "takep close mark"),
            (("room",), "takel close copy mark room"),
            (("mark",), "takep close free takel words mark early"),
            (("lapse",), "takel close copy free takel mark close copy mark"),
            (("frozen", "wait"), "takel close change copy mark"),
            (("reuse", "late"), "takep close free words takep mark words"),
            (("revoke", "shelve"), "takel close copy free mark close mark takep close words mark"),
        ):
            table = Table(without(*rules))
            self.assertIs(table.right, False)
            self.assertEqual(" ".join(table.shortest()), life, rules)

    def test_books_without_one_rule(self):
        wrong = [rule for rule in Book.RULES if not is_right(without(rule))]
        self.assertEqual(wrong, ["copies", "mark", "words", "lapse", "room", "told"])

    def test_the_least_right_books_and_all_above_them(self):
        least = [Book.read(text) for text in RIGHT_BOOKS]
        for book in least:
            self.assertIs(is_right(book), True, book.text())
        right = [book for book in ALL_BOOKS if is_right(book)]
        for book in right:
            self.assertTrue(any(set(one) <= set(book) for one in least[:-1]), book.text())
        for book in least[:-1]:
            for rule in book:
                self.assertIs(is_right(book - Book((rule,))), False, f"{book.text()} without {rule}")

    def test_is_right_is_what_the_table_says(self):
        for book in ALL_BOOKS[::7]:
            self.assertIs(is_right(book), Table(book).right)

    def test_order_and_lives_by_enumeration(self):
        chance = random.Random(11)
        for book in [FULL, Book(())] + chance.sample(ALL_BOOKS, 12):
            sound, faulty = lives_by_length(book, 5)
            first = {}
            for life in sound:
                first.setdefault(standings_along(life, book)[-1], life)
            table = Table(book)
            self.assertEqual(table.closed()[:len(first)], list(first))
            for standing, life in first.items():
                self.assertEqual(table.life_to(standing), life)
            if faulty:
                self.assertEqual(table.shortest(), faulty[0])
            else:
                self.assertTrue(table.right or len(table.shortest()) > 5)

    def test_lives_of_all_standings(self):
        for book in ALL_BOOKS[::97]:
            table = Table(book)
            self.assertEqual(list(table), table.closed())
            self.assertEqual(len(set(table)), len(table.closed()))
            lengths = []
            for standing in table:
                self.assertTrue(is_standing(standing) and not is_bad(standing))
                along = standings_along(table.life_to(standing), book)
                self.assertEqual(along[-1], standing)
                self.assertTrue(all(step in table for step in along))
                lengths.append(len(along))
                for letter in LETTERS:
                    found = after(standing, letter, book)
                    self.assertTrue(found is None or is_bad(found) or found in table)
            self.assertEqual(lengths, sorted(lengths))
            self.assertEqual(table.right, table.shortest() is None)
            if table.shortest() is not None:
                along = standings_along(table.shortest(), book)
                self.assertEqual([is_bad(step) for step in along], [False] * (len(along) - 1) + [True])

    def test_a_stop_stays_in_the_table(self):
        for book in ALL_BOOKS[::41] + [FULL]:
            table = Table(book)
            for k, _, _, h, g, _ in table:
                self.assertIn((k, "-", "=", "K" if h == "K" else "o", g, "-"), table)

    def test_returned_lists_are_new(self):
        table = Table(without("told"))
        for step in (table.closed, table.shortest, lambda: table.life_to(tuple("F-Lo--"))):
            before = list(step())
            step().clear()
            self.assertEqual(step(), before)
        self.assertEqual(list(table), table.closed())


if __name__ == "__main__":
    unittest.main()
