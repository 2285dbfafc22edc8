import random
import unittest

from helpers import done, small_plan
from making import random_rows
from storing import commit, copy_all, empty_log, kept_out, new_store, store_state, without, write_home

from lotsandties.acting import do_deed
from lotsandties.books import Book
from lotsandties.comingup import come_up
from lotsandties.errors import PlaceBusy
from lotsandties.letters import after
from lotsandties.plan import Plan
from lotsandties.playing import play
from lotsandties.records import copy_record, mark_record
from lotsandties.shadow import deed_letters, standing_of
from lotsandties.standings import START, content_r, is_bad, is_standing
from lotsandties.store import Store

NONE = Book(())
FULL = Book.full()
# In the small plan the root's names are in block 10; the sign `b` and the file `b` hold block 15 in these tests.
X = 15


def text_of(store, x=X):
    return "".join(standing_of(store, x))


def started(book=NONE):
    """A store whose root keeps its block of names, all committed, at home, and with an empty log."""
    store = commit(new_store(book), ("file", "a", 0))
    empty_log(store)
    return store


def with_sign(store):
    store.do(("sign", "b", 0, "x"), wish=X)
    return store


def with_file(store):
    store.do(("file", "b", 0))
    store.do(("write", "b", 0, (7,)), wish=X)
    return store


def copied(store):
    store.close()
    copy_all(store)
    return store


def marked(store):
    store.mark()
    store.barrier()
    return store


class StandingOfTest(unittest.TestCase):
    def test_kinds(self):
        store = started()
        self.assertEqual(standing_of(store, X), START)
        self.assertEqual(text_of(with_sign(store)), "F-Lo--")
        self.assertEqual(text_of(copied(store)), "FL=o-+")
        self.assertEqual(text_of(marked(store)), "L-=oK-")
        self.assertEqual(text_of(with_file(started())), "F-Po--")
        store = commit(with_file(started()))
        self.assertEqual(text_of(store), "P-=K--")
        self.assertEqual([text_of(store, x) for x in (10, 3, 4, 16)], ["L-=oK-", "L-=oK-", "L-=K--", "F-=o--"])

    def test_changes(self):
        store = commit(with_sign(started()))
        store.do(("resign", "b", "y"))
        self.assertEqual(text_of(store), "L-~oK-")
        store.close()
        self.assertEqual(text_of(store), "L~=oK-")
        store.do(("resign", "b", "z"))
        self.assertEqual(text_of(store), "L~~oK-")
        store.do(("unlink", "b"))
        self.assertEqual(text_of(store), "L~FoK-")
        with_sign(store)
        self.assertEqual(text_of(store), "L~LoK-")

    def test_freed_and_taken_again(self):
        store = commit(with_sign(started()))
        write_home(store)
        store.do(("unlink", "b"))
        self.assertEqual(text_of(store), "L-FKK-")
        store.close()
        self.assertEqual(text_of(store), "LF=KK-")
        with_file(store)
        self.assertEqual(text_of(store), "LFPKK-")
        store = commit(with_sign(started()))
        store.do(("unlink", "b"))
        with_sign(store)
        self.assertEqual(text_of(store), "L-LoK-")
        store = commit(with_sign(started()))
        store.do(("unlink", "b"))
        with_file(store)
        self.assertEqual(text_of(store), "L-PoK-")

    def test_words_that_change_are_no_change(self):
        store = commit(with_file(started()))
        store.do(("write", "b", 1, (8, 9)))
        self.assertEqual(text_of(store), "P-=K--")
        store.close()
        store.do(("write", "b", 1, (3,)))
        self.assertEqual(text_of(store), "P==K--")
        store.words(X)
        store.barrier()
        self.assertEqual(text_of(store), "P==K--")

    def test_home(self):
        store = with_sign(started())
        store.early(X)
        store.barrier()
        self.assertEqual(text_of(store), "F-LR--")
        store.close()
        self.assertEqual(text_of(store), "FL=C--")
        store.do(("resign", "b", "y"))
        self.assertEqual(text_of(store), "FL~C--")
        store.early(X)
        store.barrier()
        self.assertEqual(text_of(store), "FL~R--")
        store.do(("resign", "b", "z"))
        self.assertEqual(text_of(store), "FL~o--")
        store = with_file(started())
        store.words(X)
        store.barrier()
        store.do(("write", "b", 0, (8,)))
        self.assertEqual(text_of(store), "F-PR--")
        store.close()
        self.assertEqual(text_of(store), "FP=C--")
        self.assertEqual(text_of(marked(store)), "P-=K--")

    def test_log(self):
        store = commit(with_sign(started()))
        self.assertEqual(text_of(store), "L-=oK-")
        write_home(store)
        self.assertEqual(text_of(store), "L-=KK-")
        store.room()
        self.assertEqual(text_of(store), "L-=K--")
        store = commit(commit(with_sign(started())), ("unlink", "b"))
        self.assertEqual(text_of(store), "F-=oo-")
        store.room()
        self.assertEqual(text_of(store), "F-=o--")

    def test_revoke_and_lapse(self):
        for rules, log in (((), "K"), (("revoke",), "-"), (("revoke", "lapse"), "K"), (("lapse",), "K")):
            store = commit(with_sign(started(Book(rules))))
            store.do(("unlink", "b"))
            with_sign(store)
            self.assertEqual(text_of(commit(store)), f"L-=o{log}-", rules)

    def test_copies(self):
        store = with_sign(started())
        store.close()
        self.assertEqual(text_of(store), "FL=o--")
        store.copy(X)
        store.barrier()
        self.assertEqual(text_of(store), "FL=o-+")
        store = with_sign(started())
        store.close()
        store.do(("resign", "b", "y"))
        store.copy(X)
        store.barrier()
        self.assertEqual(text_of(store), "FL~o-!")
        self.assertEqual(text_of(marked(store)), "L-~oo-")
        store = with_sign(started(Book(("frozen",))))
        store.close()
        store.do(("unlink", "b"))
        store.copy(X)
        store.barrier()
        self.assertEqual(text_of(store), "FLFo-+")

    def test_a_mark_without_copies(self):
        store = with_sign(started())
        store.close()
        self.assertEqual(text_of(marked(store)), "L-=oo-")

    def test_after_a_stop(self):
        store = commit(with_sign(started(FULL)))
        found = come_up(store.cut(()), FULL)
        self.assertEqual(text_of(found), "L-=oK-")
        write_home(store)
        found = come_up(store.cut(()), FULL)
        self.assertEqual(text_of(found), "L-=KK-")
        self.assertEqual([text_of(found, x) for x in (10, 4, 16)], ["L-=KK-", "L-=K--", "F-=o--"])

    def test_a_mark_that_no_lot_of_the_window_has(self):
        store = started()
        store.disk.issue(("log", 20), mark_record(2, [(X, 19)]))
        store.disk.issue(("log", 19), copy_record(2, X, (1,) * 8))
        store.disk.barrier()
        self.assertEqual(text_of(store), "F-=oo-")

    def test_only_the_lot_that_named_the_live_copy_counts(self):
        store = commit(commit(with_sign(started())), ("resign", "b", "y"))
        self.assertEqual([lot.number for lot in store.window], [2, 3])
        identity = store.committed.identity(X)
        first, second = store.window
        first.keep_copy(X, first.copies[X][0], 0, identity)
        self.assertEqual(text_of(store), "L-=oK-")
        second.keep_copy(X, second.copies[X][0], 0, (0, 0))
        self.assertEqual(text_of(store), "L-=oo-")

    def test_pending_writes(self):
        store = with_sign(started())
        store.close()
        store.copy(0)
        for x in (0, X, 23):
            kept_out(self, PlaceBusy, standing_of, store, store, x)
        store.barrier()
        whole = store_state(store)
        standing_of(store, X)
        self.assertEqual(store_state(store), whole)

    def test_stores_by_chance(self):
        """Whatever a store does to a block is a letter of the table, and leads to the standing that it leads to there."""
        chance = random.Random(31)
        for k in range(60):
            book = FULL if k % 4 == 0 else Book.of_number(chance.randrange(4096))
            store = Store(Plan(chance.choice((14, 17)), nodes=4, slots=120), book)
            standings = {x: START for x in store.plan.data_blocks()}
            for _ in range(120):
                for row in random_rows(chance, store):
                    self.follow(store, row, standings)

    def follow(self, store, row, standings):
        before = store.image
        told = row[0] == "told" and store.present != store.number
        if play(store, [row])[0][0] != "done":
            return
        store.barrier()
        for x in list(standings):
            letters = self.letters_of(store, row, x, before, standings[x])
            for letter in letters:
                standings[x] = after(standings[x], letter, store.book)
                self.assertIsNotNone(standings[x], f"{row} {letters} is not let under {store.book.text()}")
            found = standing_of(store, x)
            self.assertTrue(is_standing(found))
            self.assertEqual(found, standings[x], f"{row} {letters} {store.book.text()}")
            # Behind a bad standing the table promises nothing of a store, nor does it if too much is told safe.
            if is_bad(found) or told:
                del standings[x]

    def letters_of(self, store, row, x, before, standing):
        kind = row[0]
        if kind == "do":
            return deed_letters(before, store.image, x)
        if kind in ("close", "mark"):
            return [kind]
        if kind == "room":
            return ["room"] if standing[4] != "-" and standing_of(store, x)[4] == "-" else []
        if kind in ("copy", "home", "early", "words") and row[1] == x:
            return ["home"] if kind == "early" and content_r(standing) == "K" else [kind]
        return []


class DeedLettersTest(unittest.TestCase):
    def check_letters(self, image, deed, wanted, *, wish=0):
        after_it = do_deed(image, deed, wish=wish)[0]
        found = {x: deed_letters(image, after_it, x) for x in range(image.plan.blocks)}
        self.assertEqual({x: letters for x, letters in found.items() if letters}, wanted)
        return after_it

    def test_deeds(self):
        image = done()
        image = self.check_letters(image, ("file", "f", 0), {0: ["change"], 3: ["change"], 5: ["change"], 6: ["change"],
                                                             10: ["takel"]})
        image = self.check_letters(image, ("write", "f", 7, (1, 2)), {0: ["change"], 3: ["change"], 4: ["change"],
                                                                      6: ["change"], 15: ["takep"], 16: ["takep"]},
                                   wish=15)
        image = self.check_letters(image, ("write", "f", 0, (5,)), {})
        image = self.check_letters(image, ("sign", "s", 1, "f"), {0: ["change"], 3: ["change"], 5: ["change"],
                                                                  7: ["change"], 10: ["change"], 11: ["takel"]})
        image = self.check_letters(image, ("resign", "s", "g"), {11: ["change"]})
        image = self.check_letters(image, ("resign", "s", "g"), {})
        image = self.check_letters(image, ("own", "f", 2), {0: ["change"], 6: ["change"]})
        image = self.check_letters(image, ("cut", "f", 8), {0: ["change"], 4: ["change"], 6: ["change"], 16: ["free"]})
        image = self.check_letters(image, ("unlink", "s"), {0: ["change"], 3: ["change"], 5: ["change"], 7: ["change"],
                                                            10: ["change"], 11: ["free"]})
        self.check_letters(image, ("open", "f"), {})

    def test_a_block_freed_and_taken_by_one_deed(self):
        # The only name of one folder moves to another one that has no block: block 12 is given and taken again.
        plan = small_plan()
        image = done(("folder", "a", 0), ("folder", "b", 0), ("file", "a/f", 0), plan=plan)
        self.assertEqual([x for x in plan.data_blocks() if image.kind(x)], [10, 11])
        self.check_letters(image, ("rename", "a/f", "b/f"), {6: ["change"], 7: ["change"], 11: ["free", "takel"]})

    def test_free_and_other_kind(self):
        before = done(("file", "f", 0), ("write", "f", 0, (1,)))
        self.assertEqual(before.kind(11), 2)
        after_it = before.twin()
        after_it.begin(0, ())
        after_it.give(11, 0)
        after_it.take(1, 0)
        self.assertEqual(deed_letters(before, after_it, 11), ["free", "takel"])
        self.assertEqual(deed_letters(after_it, before, 11), ["free", "takep"])

    def test_nothing_changes_what_is_handed_in(self):
        store = started(without("mark"))
        before = store.image
        image = do_deed(before, ("sign", "b", 0, "x"), wish=X)[0]
        cells = [list(row) for row in image.cells]
        self.assertEqual(deed_letters(before, image, X), ["takel"])
        self.assertEqual(deed_letters(image, before, X), ["free"])
        self.assertEqual(deed_letters(before, image, X + 1), [])
        self.assertEqual(image.cells, cells)


if __name__ == "__main__":
    unittest.main()
