"""Point 98: all stores that may come up."""

import unittest

from storing import commit, copy_all, new_store, store_state, without, write_home

from lotsandties.allcuts import cut_fault, cut_stores
from lotsandties.books import Book
from lotsandties.comingup import come_up
from lotsandties.cuts import cut_disks
from lotsandties.errors import BadValue
from lotsandties.places import place_block


class CutStoresTest(unittest.TestCase):
    def test_nothing_pending(self):
        store = commit(new_store(), ("file", "f", 0))
        found = list(cut_stores(store))
        self.assertEqual([keep for keep, _ in found], [()])
        self.assertEqual(store_state(found[0][1]), store_state(come_up(store.cut(()), store.book)))
        self.assertIsNone(cut_fault(store))

    def test_some_pending(self):
        store = commit(new_store(), ("file", "f", 0))
        writes = [store.home(10), store.home(5), store.home(0)]
        whole = store_state(store)
        found = list(cut_stores(store))
        self.assertEqual([keep for keep, _ in found], [keep for keep, _ in cut_disks(store.disk)])
        self.assertEqual([keep for keep, _ in found][:4],
                         [(), (writes[0],), (writes[1],), (writes[0], writes[1])])
        for keep, other in found:
            self.assertEqual(store_state(other), store_state(come_up(store.cut(keep), store.book)))
        self.assertIsNone(cut_fault(store))
        self.assertEqual(store_state(store), whole)

    def test_the_mark_pending(self):
        store = new_store()
        store.do(("file", "f", 0))
        store.close()
        copy_all(store)
        write = store.mark()
        self.assertEqual([(keep, other.number) for keep, other in cut_stores(store)], [((), 0), ((write,), 1)])
        self.assertIsNone(cut_fault(store))

    def pending(self, many):
        store = new_store()
        for x in range(many):
            store.home(x)
        return store

    def test_eight_and_nine_pending(self):
        store = self.pending(8)
        self.assertEqual(len(list(cut_stores(store))), 256)
        self.assertIsNone(cut_fault(store))
        store = self.pending(9)
        whole = store_state(store)
        self.assertRaises(BadValue, list, cut_stores(store))
        self.assertRaises(BadValue, cut_fault, store)
        self.assertEqual(store_state(store), whole)


class FaultTest(unittest.TestCase):
    """Each rule left out lets a stop do harm, and cut_fault finds it."""

    def test_told(self):
        store = commit(new_store(without("told")), ("file", "f", 0))
        store.do(("file", "g", 0))
        store.told()
        self.assertEqual(cut_fault(store), ((), "told"))

    def test_words_told_too_early(self):
        store = commit(new_store(without("told")), ("file", "f", 0), ("write", "f", 0, (1,)))
        store.do(("write", "f", 0, (2,)))
        write = store.words(11)
        self.assertIsNone(cut_fault(store))
        store.told()
        self.assertEqual(cut_fault(store), ((), "words f 0"))
        store.sure(write)
        self.assertIsNone(cut_fault(store))

    def test_words(self):
        store = new_store(without("words"))
        store.do(("file", "f", 0))
        store.do(("write", "f", 8, (1,)))
        store.close()
        copy_all(store)
        write = store.mark()
        self.assertEqual(cut_fault(store), ((write,), "words f 1"))

    def test_copies(self):
        store = new_store(without("copies"))
        store.do(("file", "f", 0))
        store.close()
        first = store.copy(10)
        mark = store.mark()
        self.assertEqual(cut_fault(store), ((mark,), "tree"))
        for x in (0, 3, 5, 6):
            self.assertNotIn(x, store.closing.copies)
        self.assertEqual(first, 1)

    def test_mark(self):
        store = commit(new_store(without("mark")), ("file", "f", 0))
        write_home(store)
        store.room()
        store.do(("rename", "f", "g"))
        write = store.early(10)
        self.assertEqual(cut_fault(store), ((write,), "tree"))

    def test_room(self):
        store = commit(new_store(without("room")), ("file", "f", 0))
        self.assertIsNone(cut_fault(store))
        store.room()
        self.assertEqual(cut_fault(store), ((), "tree"))

    def test_late_and_reuse(self):
        store = commit(new_store(without("late", "reuse", "shelve")), ("file", "f", 0), ("sign", "s", 0, "f"))
        write_home(store)
        store.room()
        store.do(("unlink", "s"))
        store.do(("write", "f", 0, (7,)), wish=11)
        write = store.words(11)
        self.assertEqual(cut_fault(store), ((write,), "tree"))

    def test_revoke_and_shelve(self):
        store = commit(new_store(without("revoke", "shelve")), ("file", "f", 0), ("sign", "s", 0, "f"))
        commit(store, ("unlink", "s"))
        store.do(("write", "f", 0, (7,)), wish=11)
        self.assertEqual(place_block(store.image, 2, 0), 11)
        commit(store)
        # The old copy of the sign's text covers the words.
        self.assertEqual(cut_fault(store), ((), "words f 0"))

    def test_frozen_and_wait(self):
        store = new_store(without("frozen", "wait"))
        store.do(("file", "f", 0))
        store.close()
        store.do(("rename", "f", "g"))
        copy_all(store)
        write = store.mark()
        self.assertEqual(cut_fault(store), ((write,), "tree"))

    def test_lapse(self):
        for book, fault in ((without("lapse"), ((), "tree")), (Book.full(), None)):
            store = commit(new_store(book), ("file", "f", 0), ("sign", "s", 0, "f"))
            commit(store, ("unlink", "s"), ("sign", "t", 0, "g"), wish=11)
            self.assertEqual(store.image.kind(11), 1)
            # Without lapse the lot strikes its own copy of block 11.
            self.assertEqual(cut_fault(store), fault)


if __name__ == "__main__":
    unittest.main()
