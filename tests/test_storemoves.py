"""Point 90: flushing."""

import random
import unittest

from making import random_store
from storing import (
    RIGHT_BOOKS,
    commit,
    copy_all,
    new_store,
    send_words,
    store_state,
    without,
)

from lotsandties.books import Book
from lotsandties.playing import play
from lotsandties.reading import read_tree
from lotsandties.storemoves import flush

BARRIER, TOLD, MARK, ROOM, CLOSE = ("barrier",), ("told",), ("mark",), ("room",), ("close",)


def homes(*blocks):
    return [("home", x) for x in blocks]


def copies(*blocks):
    return [("copy", x) for x in blocks]


def words(*blocks):
    return [("words", x) for x in blocks]


class FlushTest(unittest.TestCase):
    def check(self, store, rows):
        self.assertEqual(flush(store), rows)
        self.check_flushed(store)
        self.assertEqual(flush(store), [BARRIER, BARRIER, BARRIER, TOLD])

    def check_flushed(self, store):
        self.assertEqual((store.disk.pending(), store.closing, store.window), ([], None, []))
        self.assertEqual((store.number, store.chronicle.safe), (store.present, store.present))
        for x in range(store.plan.blocks):
            if store.image.kind(x):
                self.assertEqual(store.disk.home[x], tuple(store.image.cells[x]))
                self.assertEqual(store.home_ids[x], store.image.identity(x))

    def test_a_new_store(self):
        self.check(new_store(), [BARRIER, BARRIER, BARRIER, TOLD])

    def test_running_deeds(self):
        store = new_store()
        store.do(("file", "f", 0))
        store.do(("write", "f", 0, (1,) * 9))
        self.check(store, [BARRIER, BARRIER, CLOSE, *copies(0, 3, 5, 6, 10), BARRIER, *words(11, 12), BARRIER, MARK,
                           BARRIER, *homes(0, 3, 5, 6, 10), BARRIER, ROOM, BARRIER, TOLD])

    def test_new_words_alone(self):
        store = commit(new_store(), ("file", "f", 0), ("write", "f", 0, (1,) * 9))
        flush(store)
        store.do(("write", "f", 0, (2,)))
        self.check(store, [BARRIER, BARRIER, *words(11), BARRIER, TOLD])

    def test_pending_writes_and_a_window(self):
        store = commit(commit(new_store(), ("file", "f", 0)), ("file", "g", 0))
        store.home(10)
        store.home(0)
        self.check(store, [BARRIER, *homes(3, 5, 6, 7), BARRIER, ROOM, ROOM, BARRIER, TOLD])

    def test_a_lot_without_a_mark(self):
        store = commit(new_store(), ("file", "f", 0))
        store.do(("write", "f", 0, (1,)))
        store.close()
        store.copy(6)
        store.words(11)
        self.check(store, [BARRIER, *homes(0, 3, 5, 6, 10), BARRIER, ROOM, *copies(0, 3), BARRIER, BARRIER, MARK,
                           BARRIER, *homes(0, 3, 6), BARRIER, ROOM, BARRIER, TOLD])

    def test_a_lot_behind_its_mark(self):
        store = new_store()
        store.do(("file", "f", 0))
        store.close()
        copy_all(store)
        store.mark()
        store.do(("file", "g", 0))
        self.check(store, [BARRIER, *homes(0, 3, 5, 6, 10), BARRIER, ROOM, CLOSE, *copies(5, 7, 10), BARRIER, BARRIER,
                           MARK, BARRIER, *homes(5, 7, 10), BARRIER, ROOM, BARRIER, TOLD])

    def test_a_closing_lot_and_a_running_one(self):
        store = new_store()
        store.do(("file", "f", 0))
        store.do(("write", "f", 0, (1,)))
        store.close()
        copy_all(store)
        send_words(store)
        store.do(("write", "f", 0, (2,)))
        store.do(("file", "g", 0))
        self.check(store, [BARRIER, BARRIER, BARRIER, BARRIER, MARK, BARRIER, *homes(0, 3, 5, 6, 10), BARRIER, ROOM,
                           CLOSE, *copies(5, 7, 10), BARRIER, BARRIER, MARK, BARRIER, *homes(5, 7, 10), BARRIER, ROOM,
                           *words(11), BARRIER, TOLD])

    def test_up_to_the_first_row_that_is_not_done(self):
        # The copies have later cells than the lot, so what is written home is never what they have.
        store = new_store(without("frozen", "wait"))
        store.do(("file", "f", 0))
        store.close()
        store.do(("file", "g", 0))
        rows = [BARRIER, BARRIER, *copies(0, 3, 5, 6, 10), BARRIER, BARRIER, MARK, BARRIER, *homes(0, 3, 5, 6, 10),
                BARRIER]
        self.assertEqual(flush(store), rows)
        self.assertEqual(play(store, [ROOM]), [("notlet", "room")])
        self.assertEqual(flush(store), [BARRIER, BARRIER])

    def test_words_that_come_too_late(self):
        # Without reuse and shelve, the words may not go home while the committed image holds the block.
        store = commit(new_store(without("reuse", "shelve")), ("file", "f", 0), ("sign", "s", 0, "f"))
        flush(store)
        store.do(("unlink", "s"))
        store.do(("write", "f", 0, (7,)), wish=11)
        rows = flush(store)
        self.assertEqual(rows, [BARRIER, BARRIER, CLOSE, *copies(0, 3, 5, 6, 7, 10), BARRIER])
        self.assertEqual(store.image.kind(11), 2)

    def test_the_rows_do_the_same_when_played(self):
        for seed in range(20):
            chance = random.Random(seed)
            store, rows = random_store(chance, Book.full(), 40)
            other = new_store(plan=store.plan)
            play(other, rows)
            self.assertEqual(store_state(other), store_state(store))
            done = flush(store)
            outcomes = play(other, done)
            self.assertTrue(all(kind == "done" for kind, _ in outcomes))
            self.assertEqual(store_state(other), store_state(store))

    def test_with_the_full_book_all_is_told(self):
        for seed in range(60):
            store, _ = random_store(random.Random(seed), Book.full(), 60)
            rows = read_tree(store.image)
            self.assertEqual(flush(store)[-1], TOLD)
            self.check_flushed(store)
            self.assertEqual(read_tree(store.image), rows)

    def test_other_books(self):
        for seed in range(60):
            book = Book.read(RIGHT_BOOKS[seed % 8]) if seed % 2 else Book.of_number(random.Random(seed).randrange(4096))
            store, _ = random_store(random.Random(seed), book, 60)
            done = flush(store)
            if done[-1] == TOLD:
                self.assertEqual((store.disk.pending(), store.closing, store.window), ([], None, []))


if __name__ == "__main__":
    unittest.main()
