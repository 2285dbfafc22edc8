import random
import unittest

from lotsandties.errors import BadValue
from lotsandties.plan import Plan
from lotsandties.tiebooks import TieBook
from lotsandties.tiejudge import tie_shortest
from lotsandties.tiescript import play_ties, tie_script
from lotsandties.tiestore import TieStore
from lotsandties.tietable import tie_after, tie_bad, tie_letters, tie_start

NONE = TieBook(())
PLAN = Plan(24, nodes=5, slots=30)
ALPHABET = "abcdefghijklmnopqrstuvwxyz"


class TieScriptTest(unittest.TestCase):
    def test_rows(self):
        life = [("make", 3), ("link", 5), ("link", 1), ("move", 5, 0), ("out_node",), ("out_entry", 3), ("told",),
                ("drop", 3), ("link", 7), ("drop", 0), ("drop", 1), ("drop", 7), ("make", 2), ("out_entry", 2)]
        kept = list(life)
        self.assertEqual(tie_script(life), [
            ("make", "a", 0, 3),
            ("link", "a", "b", 5),
            ("link", "a", "c", 1),
            ("move", "b", "d", 0),
            ("out_node", 2),
            ("out_entry", 3),
            ("told",),
            ("drop", "a"),
            # The lowest entry is the one with the number 0, which has the moved name.
            ("link", "d", "e", 7),
            ("drop", "d"),
            ("drop", "c"),
            ("drop", "e"),
            ("make", "f", 1, 2),
            ("out_entry", 2),
        ])
        self.assertEqual(life, kept)
        self.assertEqual(tie_script([]), [])

    def test_owners(self):
        life = [("make", 0), ("drop", 0)] * 6
        rows = tie_script(life)
        self.assertEqual([row[2] for row in rows if row[0] == "make"], [0, 1, 2, 3, 0, 1])

    def test_letters_that_are_not_let(self):
        for life in ([("link", 0)], [("drop", 0)], [("move", 0, 1)], [("make", 0), ("make", 1)],
                     [("make", 0), ("link", 0)], [("make", 0), ("drop", 1)], [("make", 0), ("move", 0, 0)],
                     [("make", 0), ("drop", 0), ("drop", 0)], [("make", 8)], [("make", 0), ("move", 0, 8)],
                     [("out_entry", 8)], [("make", 0), ("link", -1)]):
            with self.assertRaises(BadValue):
                tie_script(life)
        # What only rules forbid is let.
        self.assertEqual(tie_script([("make", 7), ("out_entry", 7), ("told",)])[2], ("told",))

    def test_many_names(self):
        life = [("make", 0)] + [("move", 0, 1), ("move", 1, 0)] * 12 + [("link", 7)]
        rows = tie_script(life)
        self.assertEqual(rows[0][1] + "".join(row[2] for row in rows[1:]), ALPHABET)
        self.assertEqual(tie_script(life + [("told",), ("drop", 7)])[-1], ("drop", "z"))
        for more in (("link", 6), ("move", 0, 3)):
            with self.assertRaises(BadValue):
                tie_script(life + [more])

    def test_outcomes(self):
        store = TieStore(PLAN, TieBook.full())
        rows = [("make", "a", 1, 3), ("out_entry", 3), ("make", "a", 0, 0), ("told",), ("link", "a", "b", 3),
                ("drop", "x"), ("out_node", 2), ("out_entry", 3), ("out_entry", 4), ("told",), ("drop", "b"),
                ("out_entry", 4), ("move", "a", "c", 0), ("out_entry", 3), ("out_entry", 0)]
        kept = list(rows)
        self.assertEqual(play_ties(store, rows), [
            ("done", 2), ("notlet", "first"), ("refused", ""), ("notlet", "told"), ("done", 4), ("refused", ""),
            ("done", 0), ("done", 0), ("done", 0), ("done", 0), ("done", 4), ("done", 0), ("done", 0),
            ("notlet", "keep"), ("done", 0)])
        self.assertEqual(rows, kept)
        self.assertEqual(store.tied_names(), [("c", 2)])
        self.assertEqual(store.cache.cells[6][3], 1)
        self.assertEqual(play_ties(store, []), [])

    def test_shortest_faulty_lives_show_a_fault(self):
        for number in range(32):
            book = TieBook.of_number(number)
            life = tie_shortest(book)
            if life is not None:
                store = TieStore(PLAN, book)
                rows = tie_script(life)
                self.assertEqual(len(rows), len(life))
                for k, row in enumerate(rows):
                    self.assertEqual(play_ties(store, [row])[0][0], "done")
                    self.assertEqual(bool(store.faults()), k == len(rows) - 1, book.text())

    def test_lives_by_chance(self):
        chance = random.Random(81)
        letters = list(tie_letters(8))
        for _ in range(150):
            book = TieBook.of_number(chance.randrange(32))
            life, standing = [], tie_start(8)
            while len(life) < 30 and len([one for one in life if one[0] in ("make", "link", "move")]) < 26:
                let = [letter for letter in letters if tie_after(standing, letter, book) is not None]
                kind = chance.choice(sorted({letter[0] for letter in let}))
                life.append(chance.choice([letter for letter in let if letter[0] == kind]))
                standing = tie_after(standing, life[-1], book)
            self.play_life(life, book)

    def play_life(self, life, book):
        store = TieStore(PLAN, book)
        standing = tie_start(8)
        for letter, row in zip(life, tie_script(life)):
            before = standing
            standing = tie_after(standing, letter, book)
            outcome = play_ties(store, [row])[0]
            if outcome == ("notlet", "told"):
                # The table knows no names: an entry with the same tie and another name agrees there.
                self.assertEqual(store.standing(2), before)
                self.assertIs(store.agrees, False)
                return
            self.assertEqual(outcome[0], "done")
            if letter[0] == "make":
                self.assertEqual(outcome[1], 2)
            self.assertEqual(store.standing(2), standing)
            self.assertEqual(bool(store.faults()), tie_bad(standing, book))
            if tie_bad(standing, book):
                return


if __name__ == "__main__":
    unittest.main()
