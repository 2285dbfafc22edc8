import random
import unittest

from storing import RIGHT_BOOKS, without

from lotsandties.allcuts import cut_fault
from lotsandties.books import Book
from lotsandties.errors import BadValue
from lotsandties.judge import Table
from lotsandties.letters import after, let_letters, standings_along
from lotsandties.lifescript import script_of
from lotsandties.plan import Plan
from lotsandties.playing import play
from lotsandties.rows import script_text
from lotsandties.shadow import standing_of
from lotsandties.standings import LETTERS, LOST, START, is_bad
from lotsandties.store import Store

FULL = Book.full()
NONE = Book(())
SMALLEST = Plan(8, nodes=3, slots=9)
SMALL = Plan(8, nodes=3, slots=200)
PLANS = (SMALL, Plan(9, nodes=3, slots=200), Plan(24, nodes=5, slots=200), Plan(64, nodes=16, slots=200))


def lots(life):
    return len([letter for letter in life if letter in ("close", "told")])


def random_life(chance, book, length, most):
    """A life of up to some letters and lots without bad standings, but perhaps for the last one."""
    life, standing = [], START
    weights = {letter: chance.random() + 0.01 for letter in LETTERS}
    while len(life) < length and not is_bad(standing):
        let = let_letters(standing, book)
        if lots(life) == most:
            let = [letter for letter in let if letter not in ("close", "told")]
        good = [letter for letter in let if not is_bad(after(standing, letter, book))]
        choices = good if good and chance.random() < 0.97 else let
        if not choices:
            break
        life.append(chance.choices(choices, [weights[letter] for letter in choices])[0])
        standing = after(standing, life[-1], book)
    return life


class LifeScriptTest(unittest.TestCase):
    def play_life(self, life, book, plan, x):
        """Play the script of a life, and check all that point 110 says; return the store."""
        rows = script_of(life, book, plan, x)
        self.assertLessEqual(len(rows), 20 + 12 * len(life))
        standings = standings_along(life, book)
        store, contents, at = Store(plan, book), [], 0
        for k, standing in enumerate(standings):
            begun = script_of(life[:k], book, plan, x)
            self.assertEqual(rows[:len(begun)], begun)
            self.play_rows(store, begun[at:], x, contents)
            self.assertTrue(store.disk.quiet)
            self.assertEqual(standing_of(store, x), standings[k - 1] if standing == LOST else standing)
            if k and life[k - 1] == "told":
                self.assertGreater(len(begun), at)
                self.assertEqual(begun[-1], ("told",))
            # All other blocks are handled well, so a stop does harm exactly at a bad standing.
            self.assertEqual(cut_fault(store) is not None, is_bad(standing), f"{book.text()}: {life[:k]}")
            at = len(begun)
        self.assertEqual(len(set(contents)), len(contents))
        self.assertNotIn((0,) * 8, contents)
        return store

    def play_rows(self, store, rows, x, contents):
        for row in rows:
            before = store.image
            self.assertEqual(play(store, [row])[0][0], "done", row)
            if store.image.kind(x) and store.image.cells[x] != before.cells[x]:
                contents.append(tuple(store.image.cells[x]))

    def test_no_letter(self):
        for plan in PLANS + (SMALLEST,):
            for x in plan.data_blocks()[:3] + plan.data_blocks()[-1:]:
                store = self.play_life([], FULL, plan, x)
                self.assertEqual(standing_of(store, x), START)
                self.assertIn(x, store.image.free_blocks())

    def test_the_lives_of_a_table(self):
        for book in (FULL, Book.read(RIGHT_BOOKS[2]), without("wait", "frozen"), without("mark")):
            table = Table(book)
            for standing in table.closed()[::5]:
                self.play_life(table.life_to(standing), book, PLANS[2], 12)

    def test_shortest_faulty_lives(self):
        for rules in (("told",), ("copies",), ("words",), ("room",), ("mark",), ("lapse",), ("frozen", "wait"),
                      ("reuse", "late"), ("revoke", "shelve"), Book.RULES):
            book = without(*rules)
            store = self.play_life(Table(book).shortest(), book, SMALL, 7)
            self.assertIsNotNone(cut_fault(store))

    def test_lives_by_chance(self):
        chance = random.Random(21)
        for _ in range(60):
            book = Book.of_number(chance.randrange(4096)) if chance.random() < 0.6 else without(chance.choice(Book.RULES))
            plan = chance.choice(PLANS)
            self.play_life(random_life(chance, book, 24, 25), book, plan, chance.choice(plan.data_blocks()))

    def test_a_log_that_is_just_large_enough(self):
        chance = random.Random(22)
        for _ in range(25):
            slots = chance.choice((9, 16, 24, 40))
            book = chance.choice((FULL, NONE, without("room"), Book.of_number(chance.randrange(4096))))
            plan = Plan(8, nodes=3, slots=slots)
            life = random_life(chance, book, 20, slots // 8)
            self.play_life(life, book, plan, chance.choice((6, 7)))

    def test_lots_that_never_leave_the_window(self):
        life = ["takel"] + ["close", "copy", "mark", "change"] * 24
        store = self.play_life(life[:-1] + ["home"], FULL, SMALL, 6)
        self.assertEqual(len(store.window), 24)
        store = self.play_life(life[:-1] + ["home", "room"], FULL, PLANS[2], 20)
        self.assertEqual(store.window, [])

    def test_telling_again_and_again(self):
        life = ["takel", "free", "told", "told", "takep", "free"] * 6 + ["told"]
        self.play_life(life, FULL, SMALL, 7)
        life = ["takep", "close", "words", "mark", "told", "free", "close", "mark", "told"]
        self.play_life(life, without("told"), SMALL, 6)

    def test_long_lives(self):
        life = ["takel"] + ["change"] * 198 + ["free"]
        self.assertEqual(len(life), 200)
        rows = script_of(life, FULL, PLANS[3], 60)
        store = Store(PLANS[3], FULL)
        self.assertEqual({outcome[0] for outcome in play(store, rows)}, {"done"})
        self.assertEqual(standing_of(store, 60), START)
        texts = [row[2][-1] for row in rows if row[0] == "do" and row[2][0] in ("sign", "resign")]
        self.assertEqual(len(set(texts)), 199)
        with self.assertRaises(BadValue):
            script_of(life + ["takel"], FULL, PLANS[3], 60)

    def test_wrong_plans_and_blocks(self):
        script_of([], FULL, SMALLEST, 6)
        with self.assertRaises(BadValue):
            script_of([], FULL, Plan(8, nodes=2, slots=9), 6)
        for x in (0, 5, 8, 63, 64, -1):
            with self.assertRaises(BadValue):
                script_of([], FULL, SMALLEST, x)

    def test_wrong_lives(self):
        for life in (["mark"], ["take"], ["takel", "takel"], ["told", "tell"], ["takel", "told"], [""]):
            with self.assertRaises(BadValue):
                script_of(life, FULL, SMALL, 6)
        script_of(["takel", "told"], NONE, SMALL, 6)
        with self.assertRaises(BadValue):
            script_of(["takel", "told", "free"], NONE, SMALL, 6)

    def test_too_many_lots(self):
        for slots, most in ((9, 1), (15, 1), (16, 2), (23, 2), (24, 3)):
            plan = Plan(8, nodes=3, slots=slots)
            self.play_life(["told"] * most, FULL, plan, 6)
            self.play_life(["close", "mark"] * most, FULL, plan, 6)
            for life in (["told"] * (most + 1), ["close", "mark"] * most + ["close"], ["told"] * most + ["close"]):
                with self.assertRaises(BadValue):
                    script_of(life, FULL, plan, 6)

    def test_a_life_that_goes_on_behind_a_bad_standing(self):
        # Nothing is promised of its rows, but there are some, and they can be written.
        life = ["takel", "close", "mark", "change", "close", "copy", "mark", "room", "home", "told"]
        rows = script_of(life, NONE, SMALL, 6)
        self.assertIn("mark", script_text(rows))

    def test_the_life_stays_as_it_was(self):
        life = ["takel", "close", "copy", "mark"]
        rows = script_of(life, FULL, SMALL, 6)
        self.assertEqual(life, ["takel", "close", "copy", "mark"])
        rows.clear()
        self.assertGreater(len(script_of(life, FULL, SMALL, 6)), 10)


if __name__ == "__main__":
    unittest.main()
