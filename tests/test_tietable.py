import itertools
import unittest

from lotsandties.tiebooks import TieBook
from lotsandties.tietable import tie_after, tie_bad, tie_letters, tie_start

NONE = TieBook(())
FULL = TieBook.full()
START = (0, (0, 0), "u", ("-", "-"), 0)


def only(*rules):
    return TieBook(rules)


def without(*rules):
    return FULL - TieBook(rules)


def all_standings():
    """All standings over two entries in which a node is alive exactly if it has a tie."""
    for ties, record, marks, told in itertools.product(
        itertools.product((0, 1), repeat=2), "uno", itertools.product("-no", repeat=2), (0, 1)
    ):
        alive = 1 if any(ties) else 0
        if alive or not told:
            yield (alive, ties, record, marks, told)


class TieTableTest(unittest.TestCase):
    def leads(self, letter, *cases, book=NONE):
        for standing, found in cases:
            self.assertEqual(tie_after(standing, letter, book), found, f"{standing} {letter} {book.text()}")

    def test_start(self):
        self.assertEqual(tie_start(2), START)
        self.assertEqual(tie_start(1), (0, (0,), "u", ("-",), 0))
        self.assertEqual(tie_start(8), (0, (0,) * 8, "u", ("-",) * 8, 0))

    def test_letters(self):
        self.assertEqual(list(tie_letters(1)), [("make", 0), ("link", 0), ("drop", 0), ("out_node",), ("out_entry", 0),
                                                ("told",)])
        self.assertEqual(list(tie_letters(2)), [
            ("make", 0), ("make", 1), ("link", 0), ("link", 1), ("drop", 0), ("drop", 1), ("move", 0, 1),
            ("move", 1, 0), ("out_node",), ("out_entry", 0), ("out_entry", 1), ("told",)])
        letters = list(tie_letters(3))
        self.assertEqual(letters[9:15], [("move", 0, 1), ("move", 0, 2), ("move", 1, 0), ("move", 1, 2),
                                         ("move", 2, 0), ("move", 2, 1)])
        self.assertEqual([len(list(tie_letters(entries))) for entries in (3, 8)], [20, 90])

    def test_make(self):
        self.leads(("make", 0), (START, (1, (1, 0), "u", ("-", "-"), 0)), ((1, (1, 0), "u", ("-", "-"), 0), None),
                   ((1, (0, 1), "u", ("-", "-"), 0), None), ((0, (0, 0), "n", ("n", "o"), 0),
                                                             (1, (1, 0), "o", ("o", "o"), 0)))
        self.leads(("make", 1), ((0, (0, 0), "o", ("-", "n"), 0), (1, (0, 1), "o", ("-", "o"), 0)))
        for book in (only("after"), FULL):
            self.leads(("make", 0), (START, (1, (1, 0), "u", ("-", "-"), 0)), ((0, (0, 0), "u", ("n", "-"), 0), None),
                       ((0, (0, 0), "u", ("-", "o"), 0), None),
                       ((0, (0, 0), "n", ("-", "-"), 0), (1, (1, 0), "o", ("-", "-"), 0)), book=book)
        self.leads(("make", 0), ((0, (0, 0), "u", ("-", "o"), 0), (1, (1, 0), "u", ("-", "o"), 0)),
                   book=without("after"))

    def test_link(self):
        for book in (NONE, FULL):
            self.leads(("link", 1), ((1, (1, 0), "n", ("n", "o"), 1), (1, (1, 1), "n", ("n", "o"), 1)), (START, None),
                       ((1, (0, 1), "n", ("-", "-"), 0), None), ((1, (1, 1), "n", ("-", "-"), 0), None), book=book)

    def test_drop(self):
        for book in (NONE, FULL):
            self.leads(("drop", 0), ((1, (1, 0), "n", ("n", "-"), 1), (0, (0, 0), "n", ("n", "-"), 0)),
                       ((1, (1, 1), "n", ("n", "-"), 1), (1, (0, 1), "n", ("n", "-"), 1)),
                       ((1, (0, 1), "n", ("n", "-"), 1), None), (START, None), book=book)

    def test_move(self):
        for book in (NONE, FULL):
            self.leads(("move", 0, 1), ((1, (1, 0), "n", ("n", "-"), 1), (1, (0, 1), "n", ("n", "-"), 1)),
                       ((1, (0, 1), "n", ("n", "-"), 1), None), ((1, (1, 1), "n", ("n", "-"), 1), None), (START, None),
                       book=book)
            self.leads(("move", 1, 0), ((1, (0, 1), "o", ("-", "-"), 0), (1, (1, 0), "o", ("-", "-"), 0)), book=book)

    def test_out_node(self):
        for book in (NONE, FULL):
            self.leads(("out_node",), (START, START), ((0, (0, 0), "n", ("n", "-"), 0), (0, (0, 0), "u", ("n", "-"), 0)),
                       ((0, (0, 0), "o", ("o", "-"), 0), (0, (0, 0), "u", ("o", "-"), 0)),
                       ((1, (1, 0), "o", ("-", "-"), 1), (1, (1, 0), "n", ("-", "-"), 1)), book=book)

    def test_out_entry_with_a_tie(self):
        for book in (NONE, without("first")):
            for record in "uno":
                for mark in "-no":
                    self.leads(("out_entry", 0), ((1, (1, 0), record, (mark, "o"), 1),
                                                  (1, (1, 0), record, ("n", "o"), 1)), book=book)
        for book in (only("first"), FULL):
            self.leads(("out_entry", 1), ((1, (0, 1), "u", ("-", "-"), 0), None),
                       ((1, (0, 1), "o", ("-", "n"), 0), None),
                       ((1, (0, 1), "n", ("-", "o"), 0), (1, (0, 1), "n", ("-", "n"), 0)), book=book)

    def test_out_entry_without_a_tie(self):
        cases = [((1, (0, 1), "n", ("n", "-"), 1), (1, (0, 1), "n", ("-", "-"), 1)),
                 ((1, (0, 1), "n", ("n", "o"), 0), (1, (0, 1), "n", ("-", "o"), 0))]
        for book in (NONE, without("keep")):
            self.leads(("out_entry", 0), *cases, book=book)
        for book in (only("keep"), FULL):
            self.leads(("out_entry", 0), *[(standing, None) for standing, _ in cases], book=book)
            self.leads(("out_entry", 0), ((0, (0, 0), "n", ("n", "-"), 0), (0, (0, 0), "n", ("-", "-"), 0)),
                       ((1, (0, 1), "n", ("o", "-"), 0), (1, (0, 1), "n", ("-", "-"), 0)),
                       ((1, (0, 1), "u", ("-", "-"), 0), (1, (0, 1), "u", ("-", "-"), 0)),
                       ((1, (0, 1), "o", ("n", "n"), 1), (1, (0, 1), "o", ("-", "n"), 1)), book=book)

    def test_told(self):
        agreed = [((1, (1, 0), "n", ("n", "-"), 0), (1, (1, 0), "n", ("n", "-"), 1)),
                  ((1, (1, 1), "n", ("n", "n"), 1), (1, (1, 1), "n", ("n", "n"), 1)), (START, START)]
        apart = [((1, (1, 0), "n", ("-", "-"), 0), (1, (1, 0), "n", ("-", "-"), 1)),
                 ((1, (1, 0), "n", ("n", "n"), 0), (1, (1, 0), "n", ("n", "n"), 1)),
                 ((1, (1, 0), "n", ("o", "-"), 0), (1, (1, 0), "n", ("o", "-"), 1)),
                 ((1, (1, 0), "n", ("n", "o"), 0), (1, (1, 0), "n", ("n", "o"), 1)),
                 ((1, (1, 0), "u", ("n", "-"), 0), (1, (1, 0), "u", ("n", "-"), 1)),
                 ((1, (1, 0), "o", ("n", "-"), 0), (1, (1, 0), "o", ("n", "-"), 1)),
                 ((0, (0, 0), "n", ("-", "-"), 0), (0, (0, 0), "n", ("-", "-"), 0)),
                 ((0, (0, 0), "o", ("-", "-"), 0), (0, (0, 0), "o", ("-", "-"), 0)),
                 ((0, (0, 0), "u", ("o", "-"), 0), (0, (0, 0), "u", ("o", "-"), 0))]
        for book in (NONE, without("told")):
            self.leads(("told",), *agreed, *apart, book=book)
        for book in (only("told"), FULL):
            self.leads(("told",), *agreed, *[(standing, None) for standing, _ in apart], book=book)

    def test_letters_over_other_entries(self):
        self.assertEqual(tie_after(tie_start(8), ("make", 7), FULL), (1, (0,) * 7 + (1,), "u", ("-",) * 8, 0))
        standing = tie_after(tie_start(3), ("make", 2), FULL)
        self.assertEqual(tie_after(standing, ("move", 2, 1), FULL), (1, (0, 1, 0), "u", ("-",) * 3, 0))
        for letter in (("make", 2), ("link", 2), ("drop", 5), ("move", 0, 2), ("out_entry", 2)):
            self.assertIsNone(tie_after((1, (1, 0), "n", ("n", "-"), 0), letter, NONE))

    def test_bad_for_what_was_told(self):
        for book in (NONE, FULL):
            self.assertIs(tie_bad((1, (1, 0), "n", ("n", "-"), 1), book), False)
            self.assertIs(tie_bad((1, (1, 0), "n", ("-", "n"), 1), book), False)
            for standing in ((1, (1, 0), "u", ("n", "-"), 1), (1, (1, 0), "o", ("n", "-"), 1),
                             (1, (1, 0), "n", ("-", "-"), 1)):
                self.assertIs(tie_bad(standing, book), True)
                self.assertIs(tie_bad(standing[:4] + (0,), FULL), False)
        self.assertIs(tie_bad((1, (1, 0), "n", ("o", "-"), 1), FULL), True)
        self.assertIs(tie_bad((1, (1, 0), "n", ("o", "n"), 1), FULL), False)

    def test_bad_for_makings(self):
        for standing, bad in (((1, (1, 0), "n", ("o", "n"), 1), True), ((1, (1, 0), "n", ("o", "-"), 0), True),
                              ((1, (1, 0), "o", ("n", "-"), 0), True), ((1, (1, 0), "o", ("o", "-"), 0), False),
                              ((1, (1, 0), "n", ("n", "-"), 0), False), ((0, (0, 0), "u", ("n", "o"), 0), False),
                              (START, False)):
            for book in (NONE, without("numbered")):
                self.assertIs(tie_bad(standing, book), bad, standing)
            for book in (only("numbered"), FULL):
                self.assertIs(tie_bad(standing, book), False)

    def test_letters_keep_standings_in_form(self):
        known = set(all_standings())
        for standing in known:
            for number in (0, 9, 22, 31):
                book = TieBook.of_number(number)
                for letter in tie_letters(2):
                    found = tie_after(standing, letter, book)
                    if found is not None:
                        self.assertIn(found, known)
                        self.assertEqual(found, tie_after(standing, letter, NONE))


if __name__ == "__main__":
    unittest.main()
