"""Points 80 to 88: stores, their lots and their writes."""

import unittest

from helpers import disk_state, fresh, small_plan, state
from storing import (
    busy_homes,
    commit,
    copy_all,
    empty_log,
    kept_out,
    new_store,
    not_let,
    send_words,
    store_state,
    without,
    write_home,
)

from lotsandties.acting import do_deed
from lotsandties.books import Book
from lotsandties.disk import Disk
from lotsandties.errors import (
    BadValue,
    BlocksFull,
    LogEmpty,
    LogFull,
    LotClosing,
    MarkIssued,
    NameTaken,
    NoLotClosing,
    NoSuchName,
    NotDue,
    NotHeld,
    NotLet,
    NoWrite,
    PlaceBusy,
)
from lotsandties.plan import Plan
from lotsandties.records import copy_record
from lotsandties.store import Store

FILE = ("file", "f", 0)
WORD = ("write", "f", 0, (7,))


class NewStoreTest(unittest.TestCase):
    def test_fields(self):
        plan, book = small_plan(), Book.full()
        store = Store(plan, book)
        self.assertIs(store.plan, plan)
        self.assertIs(store.book, book)
        self.assertEqual((state(store.image), state(store.committed)), (state(fresh()), state(fresh())))
        self.assertEqual((store.number, store.present, store.closing, store.window), (0, 0, None, []))
        self.assertEqual(disk_state(store.disk), disk_state(Disk.of_image(fresh())))
        self.assertEqual(store.home_ids, [(1, 1)] * 10 + [(0, 0)] * 14)
        self.assertEqual((store.chronicle.safe, 0 in store.chronicle, 1 in store.chronicle), (0, True, False))
        self.assertEqual((store.due(), store.uncopied()), ([], []))
        self.assertEqual((store.pool(1), store.pool(2)), (list(range(10, 24)), list(range(10, 24))))

    def test_the_images_are_two(self):
        store = new_store()
        store.image.cells[5][2] = 9
        self.assertEqual(state(store.committed), state(fresh()))
        self.assertEqual(store.disk.home[5][2], 0)
        self.assertEqual(store.chronicle.fault(0, fresh()), "")

    def test_blocks_that_the_plan_does_not_have(self):
        store = new_store()
        store.do(FILE)
        kept_out(self, NoLotClosing, store.copy, store, 63)
        store.close()
        for x in (24, 40, 63):
            kept_out(self, NotDue, store.copy, store, x)
            kept_out(self, NotHeld, store.home, store, x)
            kept_out(self, NotHeld, store.early, store, x)
            kept_out(self, NotHeld, store.words, store, x)


class DoTest(unittest.TestCase):
    def test_do(self):
        store = new_store()
        self.assertEqual(store.do(FILE), 2)
        self.assertEqual(store.do(("write", "f", 0, (7,)), wish=15), 0)
        self.assertEqual((store.image.serial, store.image.wish, store.image.barred), (3, 15, ()))
        self.assertEqual(store.image.kind(15), 2)
        self.assertEqual(store.chronicle.versions(15, 3), [(7,) + (0,) * 7])
        self.assertEqual(state(store.committed), state(fresh()))
        self.assertEqual(store.present, 1)

    def test_errors_of_deeds(self):
        store = new_store()
        store.do(FILE)
        kept_out(self, NameTaken, store.do, store, FILE)
        kept_out(self, NoSuchName, store.do, store, ("unlink", "x"), wish=3)
        kept_out(self, BadValue, store.do, store, ["file", "f", 0])

    def test_the_old_image_stays(self):
        store = new_store()
        before = store.image
        whole = state(before)
        store.do(FILE)
        self.assertEqual(state(before), whole)
        self.assertIsNot(store.image, before)

    def test_barred_blocks(self):
        store = commit(new_store(), FILE, WORD)
        self.assertEqual(store.image.kind(11), 2)
        empty_log(store)
        store.do(("cut", "f", 0))
        self.assertEqual((store.pool(1), store.pool(2)), (list(range(11, 24)), list(range(12, 24))))
        store.do(WORD)
        self.assertEqual((store.image.kind(12), store.image.barred), (2, (10, 11)))
        # Without the rule reuse the block is given out again.
        store = commit(new_store(without("reuse")), FILE, WORD)
        empty_log(store)
        store.do(("cut", "f", 0))
        self.assertEqual(store.pool(2), list(range(11, 24)))
        store.do(WORD)
        self.assertEqual((store.image.kind(11), store.image.barred), (2, ()))

    def test_blocks_of_the_closing_lot_are_barred(self):
        store = new_store()
        for deed in (FILE, WORD):
            store.do(deed)
        store.close()
        copy_all(store)
        store.do(("unlink", "f"))
        self.assertEqual((store.pool(1), store.pool(2)), (list(range(10, 24)), list(range(12, 24))))

    def test_blocks_with_copies_in_the_window_are_barred(self):
        book = without("reuse")
        store = commit(new_store(book), FILE, ("sign", "s", 0, "f"))
        store.do(("unlink", "s"))
        # Block 10 has the names of the root, 11 had the text of the sign.
        self.assertEqual((store.pool(1), store.pool(2)), (list(range(11, 24)), list(range(12, 24))))
        commit(store)
        # The next lot revokes it.
        self.assertEqual(store.pool(2), list(range(11, 24)))
        store = commit(commit(new_store(book - Book(["revoke"])), FILE, ("sign", "s", 0, "f")), ("unlink", "s"))
        self.assertEqual(store.pool(2), list(range(12, 24)))
        empty_log(store)
        self.assertEqual(store.pool(2), list(range(11, 24)))
        store = commit(new_store(book - Book(["shelve"])), FILE, ("sign", "s", 0, "f"))
        store.do(("unlink", "s"))
        self.assertEqual(store.pool(2), list(range(11, 24)))

    def test_no_block_is_left(self):
        store = commit(new_store(plan=Plan(10, nodes=2, slots=13)), FILE, ("write", "f", 0, (1,) * 16))
        empty_log(store)
        for size in (80, 0):
            store.do(("cut", "f", size))
        store.do(("write", "f", 8, (1,)))
        self.assertEqual(store.pool(2), [])
        # Two blocks are free, but barred.
        kept_out(self, BlocksFull, store.do, store, WORD)
        self.assertEqual(len(store.pool(1)), 2)

    def test_wait(self):
        store = new_store()
        store.do(FILE)
        store.do(("sign", "s", 0, "f"))
        store.close()
        self.assertEqual(store.uncopied(), [0, 3, 5, 6, 7, 10, 11])
        not_let(self, "wait", store.do, store, ("resign", "s", "g"))
        not_let(self, "wait", store.do, store, ("unlink", "s"))
        not_let(self, "wait", store.do, store, ("write", "f", 0, (1,)))
        # Errors of the deed come first.
        kept_out(self, NoSuchName, store.do, store, ("unlink", "x"))
        # A deed that changes no block is let.
        store.do(("open", "f"))
        store.do(("own", "s", 0))
        write = store.copy(11)
        not_let(self, "wait", store.do, store, ("resign", "s", "gg"))
        store.sure(write)
        self.assertEqual(store.uncopied(), [0, 3, 5, 6, 7, 10])
        not_let(self, "wait", store.do, store, ("resign", "s", "g/g"))
        store.sure(store.copy(7))
        self.assertEqual(store.do(("resign", "s", "g/g")), 0)
        not_let(self, "wait", store.do, store, ("unlink", "s"))

    def test_without_wait(self):
        store = new_store(without("wait"))
        store.do(FILE)
        store.close()
        store.do(("rename", "f", "g"))
        self.assertEqual(store.uncopied(), [0, 3, 5, 6, 10])

    def test_cells_put_back_are_a_change(self):
        store = new_store()
        store.do(("sign", "s", 0, "f"))
        store.close()
        whole = [list(row) for row in store.image.cells]
        after, _ = do_deed(store.image, ("rename", "s", "s"))
        self.assertEqual(after.cells, whole)
        store.do(("rename", "s", "s"))
        not_let(self, "wait", store.do, store, ("rename", "s", "t"))


class CloseTest(unittest.TestCase):
    def test_the_example_of_the_document(self):
        store = Store(Plan(24, nodes=5, slots=30), Book.full())
        store.do(("file", "a", 0))
        self.assertEqual(store.due(), [])
        self.assertIsNone(store.close())
        self.assertEqual(store.due(), [0, 3, 5, 6, 10])

    def test_close(self):
        store = new_store()
        store.do(FILE)
        store.close()
        self.assertEqual((store.closing.number, store.closing.copies, store.closing.mark), (1, {}, 0))
        self.assertEqual(state(store.closing.image), state(store.image))
        self.assertEqual((store.number, store.present, store.window), (0, 1, []))
        self.assertTrue(1 in store.chronicle)
        self.assertEqual(store.chronicle.fault(1, store.image), "")
        store.image.cells[10][0] = 9
        self.assertEqual(store.closing.image.cells[10][0], 6)
        self.assertEqual(store.chronicle.fault(1, store.closing.image), "")

    def test_a_lot_is_closing(self):
        store = new_store()
        store.close()
        kept_out(self, LotClosing, store.close, store)
        copy_all(store)
        store.mark()
        kept_out(self, LotClosing, store.close, store)
        store.barrier()
        store.close()
        self.assertEqual(store.closing.number, 2)

    def test_a_lot_that_differs_in_nothing(self):
        store = new_store()
        store.close()
        self.assertEqual((store.due(), store.present), ([], 1))
        store.mark()
        self.assertEqual(store.disk.pending(), [(1, ("log", 0), ("mark", 1, (), ()))])
        store.sure(1)
        self.assertEqual((store.number, len(store.window)), (1, 1))
        store.room()
        self.assertEqual((store.disk.head, store.window), (1, []))

    def test_uncopied(self):
        store = new_store()
        store.do(FILE)
        store.close()
        writes = {x: store.copy(x) for x in (0, 5, 10)}
        self.assertEqual(store.uncopied(), [0, 3, 5, 6, 10])
        store.sure(writes[5])
        self.assertEqual(store.uncopied(), [0, 3, 6, 10])
        store.barrier()
        self.assertEqual((store.uncopied(), store.due()), ([3, 6], [0, 3, 5, 6, 10]))

    def test_the_present_number(self):
        store = new_store()
        store.do(FILE)
        store.close()
        self.assertEqual(store.present, 1)
        copy_all(store)
        store.do(("file", "g", 0))
        self.assertEqual(store.present, 2)
        store.mark()
        store.barrier()
        self.assertEqual((store.number, store.present), (1, 2))
        commit(store)
        self.assertEqual((store.number, store.present), (2, 2))
        commit(store, ("write", "f", 0, (1,)))
        store.do(("write", "f", 0, (2,)))
        self.assertEqual((store.number, store.present), (3, 3))


class CopyTest(unittest.TestCase):
    def test_copy(self):
        store = new_store()
        store.do(FILE)
        store.close()
        self.assertEqual(store.copy(10), 1)
        self.assertEqual(store.copy(0), 2)
        self.assertEqual([(number, place) for number, place, _ in store.disk.pending()],
                         [(1, ("log", 0)), (2, ("log", 1))])
        self.assertEqual(store.disk.pending()[0][2], copy_record(1, 10, store.image.cells[10]))
        self.assertEqual(store.closing.copies, {10: (0, 1), 0: (1, 2)})
        self.assertEqual(store.closing.identities, {10: (2, 2), 0: (1, 2)})

    def test_order_of_the_errors(self):
        store = new_store()
        store.do(FILE)
        kept_out(self, NoLotClosing, store.copy, store, 11)
        store.close()
        for x in (1, 2, 4, 7, 11, 23, 63):
            kept_out(self, NotDue, store.copy, store, x)
        store.copy(10)
        kept_out(self, NotDue, store.copy, store, 10)
        store.barrier()
        kept_out(self, NotDue, store.copy, store, 10)
        copy_all(store)
        store.mark()
        kept_out(self, MarkIssued, store.copy, store, 10)
        kept_out(self, MarkIssued, store.copy, store, 63)
        store.barrier()
        kept_out(self, NoLotClosing, store.copy, store, 10)

    def test_frozen(self):
        for book, cells in ((without("wait"), (6, 66)), (without("wait", "frozen"), (7, 66))):
            store = new_store(book)
            store.do(FILE)
            store.close()
            store.do(("rename", "f", "g"))
            store.copy(10)
            self.assertEqual(store.disk.pending()[0][2][3][:2], cells)
            identity = store.closing.image.identity(10) if "frozen" in book else store.image.identity(10)
            self.assertEqual(store.closing.identities, {10: identity})
        # The running image has the block free by now.
        store = new_store(without("wait", "frozen"))
        store.do(FILE)
        store.close()
        store.do(("unlink", "f"))
        store.copy(10)
        self.assertEqual((store.disk.pending()[0][2][3], store.closing.identities), ((0,) * 8, {10: (0, 0)}))

    def test_the_lowest_free_slot(self):
        store = commit(new_store(), FILE)
        self.assertEqual(store.window[0].used_slots(), [0, 1, 2, 3, 4, 5])
        self.assertEqual(store.window[0].mark_slot, 5)
        store.do(("file", "g", 0))
        store.close()
        store.copy(10)
        self.assertEqual(store.closing.copies, {10: (6, 7)})
        copy_all(store)
        store.mark()
        self.assertEqual(store.closing.used_slots(), [6, 7, 8, 9])
        store.barrier()
        write_home(store)
        store.room()
        store.do(("file", "h", 0))
        store.close()
        store.copy(10)
        self.assertEqual(store.closing.copies[10][0], 0)
        store.barrier()
        store.copy(5)
        self.assertEqual(store.closing.copies[5][0], 1)

    def test_a_slot_with_a_pending_write(self):
        store = new_store(without("copies", "room"))
        store.do(FILE)
        store.close()
        write = store.copy(10)
        store.sure(store.mark())
        store.room()
        store.do(("file", "g", 0))
        store.close()
        # Slot 0 still has the pending copy of the lot that left, slot 1 its mark.
        store.copy(10)
        self.assertEqual(store.closing.copies[10][0], 1)
        store.copy(7)
        self.assertEqual(store.closing.copies[7][0], 2)
        store.sure(write)
        store.copy(5)
        self.assertEqual(store.closing.copies[5][0], 0)

    def test_a_full_log(self):
        store = new_store(plan=Plan(12, nodes=2, slots=13))
        commit(store, FILE)
        for path, new in (("f", "g"), ("g", "h")):
            commit(store, ("rename", path, new))
        self.assertEqual(sum(len(lot.used_slots()) for lot in store.window), 10)
        store.do(("link", "h", "i"))
        store.close()
        self.assertEqual(store.due(), [4, 5, 6])
        kept_out(self, NotDue, store.copy, store, 7)
        for x in (4, 5, 6):
            store.copy(x)
        store.barrier()
        kept_out(self, LogFull, store.mark, store)
        empty_log(store)
        self.assertEqual(store.mark(), store.disk.last)

    def test_a_full_log_for_a_copy(self):
        store = new_store(plan=Plan(12, nodes=2, slots=13))
        for k in range(4):
            commit(store, ("limit", 0, k))
        commit(store, ("file", "f", 0))
        # The slots are used up: two for each limit, and six for the file.
        self.assertEqual([len(lot.used_slots()) for lot in store.window], [1, 2, 2, 2, 6])
        store.do(("limit", 0, 9))
        store.close()
        kept_out(self, LogFull, store.copy, store, 0)
        kept_out(self, NotDue, store.copy, store, 1)
        not_let(self, "copies", store.mark, store)


class MarkTest(unittest.TestCase):
    def test_mark(self):
        store = new_store()
        store.do(FILE)
        store.close()
        copy_all(store)
        self.assertEqual(store.mark(), 6)
        self.assertEqual(store.disk.pending(),
                         [(6, ("log", 5), ("mark", 1, ((0, 0), (3, 1), (5, 2), (6, 3), (10, 4)), ()))])
        self.assertEqual((store.closing.mark, store.closing.mark_slot, store.closing.revokes), (6, 5, ()))
        self.assertEqual(store.number, 0)

    def test_order_of_the_errors(self):
        store = new_store()
        kept_out(self, NoLotClosing, store.mark, store)
        store.do(FILE)
        store.do(WORD)
        store.close()
        # Copies and words are missing.
        not_let(self, "copies", store.mark, store)
        for x in store.due():
            store.copy(x)
        not_let(self, "copies", store.mark, store)
        store.barrier()
        not_let(self, "words", store.mark, store)
        store.words(11)
        not_let(self, "words", store.mark, store)
        store.barrier()
        store.mark()
        kept_out(self, MarkIssued, store.mark, store)
        store.barrier()
        kept_out(self, NoLotClosing, store.mark, store)

    def test_without_copies(self):
        store = new_store(without("copies"))
        store.do(FILE)
        store.close()
        store.copy(5)
        store.mark()
        self.assertEqual(store.disk.pending()[1][2], ("mark", 1, ((0, -1), (3, -1), (5, 0), (6, -1), (10, -1)), ()))
        store.sure(2)
        self.assertEqual((store.number, store.window[0].copies, store.disk.busy(("log", 0))), (1, {5: (0, 1)}, True))

    def test_without_words(self):
        store = new_store(without("words"))
        store.do(FILE)
        store.do(WORD)
        store.close()
        copy_all(store)
        store.mark()
        store.barrier()
        self.assertEqual((store.number, store.home_ids[11]), (1, (0, 0)))

    def test_words_of_the_lot_count(self):
        # The running image has other words at home, and words of the same holding will do.
        store = new_store()
        for deed in (FILE, WORD):
            store.do(deed)
        store.close()
        copy_all(store)
        store.do(("write", "f", 0, (8,)))
        store.words(11)
        store.barrier()
        self.assertEqual(store.home_ids[11], (3, 4))
        self.assertEqual(store.mark(), store.disk.last)

    def test_words_of_old_files_may_be_anywhere(self):
        store = commit(new_store(), FILE, WORD)
        store.do(("write", "f", 0, (8,)))
        store.words(11)
        store.close()
        copy_all(store)
        self.assertEqual(store.mark(), store.disk.last)

    def test_revokes(self):
        for book, revokes in ((Book.full(), (11,)), (without("revoke"), ())):
            store = commit(new_store(book), FILE, ("sign", "s", 0, "f"))
            store.do(("unlink", "s"))
            store.close()
            copy_all(store)
            store.mark()
            self.assertEqual((store.closing.revokes, store.disk.pending()[0][2][3]), (revokes, revokes))
            store.barrier()
            self.assertEqual(store.window[1].revokes, revokes)

    def test_revokes_of_a_block_taken_again(self):
        store = commit(new_store(), FILE, ("sign", "s", 0, "f"))
        commit(store, ("unlink", "s"), ("sign", "t", 0, "f"), wish=11)
        self.assertEqual(store.image.kind(11), 1)
        self.assertEqual((store.window[1].revokes, 11 in store.window[1].copies), ((11,), True))


class SureTest(unittest.TestCase):
    def test_no_write(self):
        store = new_store()
        kept_out(self, NoWrite, store.sure, store, 1)
        store.do(FILE)
        store.close()
        store.copy(10)
        kept_out(self, NoWrite, store.sure, store, 2)
        self.assertIsNone(store.sure(1))
        kept_out(self, NoWrite, store.sure, store, 1)
        self.assertEqual(store.disk.log[0], ("copy", 1, 10, tuple(store.image.cells[10])))

    def test_the_mark(self):
        store = new_store()
        store.do(FILE)
        store.close()
        lot = store.closing
        copy_all(store)
        store.do(("file", "g", 0))
        write = store.mark()
        running = state(store.image)
        store.sure(write)
        self.assertIs(store.window[0], lot)
        self.assertEqual((store.number, store.closing, len(store.window)), (1, None, 1))
        self.assertEqual((state(store.committed), state(store.image)), (state(lot.image), running))
        self.assertEqual(store.disk.head, 0)

    def test_homes(self):
        store = commit(new_store(), FILE)
        write = store.home(10)
        self.assertEqual((store.home_ids[10], store.disk.home[10]), ((0, 0), (0,) * 8))
        store.sure(write)
        self.assertEqual((store.home_ids[10], store.disk.home[10]), ((2, 2), tuple(store.image.cells[10])))

    def test_a_write_keeps_its_identity(self):
        store = commit(new_store(), FILE, WORD)
        store.do(("write", "f", 0, (8,)))
        first = store.words(11)
        store.do(("write", "f", 0, (9,)))
        store.sure(first)
        self.assertEqual((store.home_ids[11], store.disk.home[11][0]), ((3, 4), 8))
        self.assertEqual(store.image.identity(11), (3, 5))

    def test_a_write_sure_after_its_block_was_taken_again(self):
        store = commit(new_store(), FILE, ("sign", "s", 0, "f"))
        write = store.home(11)
        identity = store.committed.identity(11)
        commit_of(store, ("unlink", "s"), ("sign", "t", 0, "g"), keep=write)
        self.assertNotEqual(store.committed.identity(11), identity)
        store.sure(write)
        self.assertEqual(store.home_ids[11], identity)
        store.home(11)
        store.barrier()
        self.assertEqual(store.home_ids[11], store.committed.identity(11))

    def test_a_mark_sure_with_a_copy_pending(self):
        store = new_store(without("copies"))
        store.do(FILE)
        store.close()
        first = store.copy(10)
        store.sure(store.mark())
        self.assertEqual((store.number, store.disk.busy(("log", 0))), (1, True))
        store.sure(first)
        self.assertEqual((store.number, store.window[0].copies), (1, {10: (0, 1)}))

    def test_barrier(self):
        store = new_store()
        store.do(FILE)
        store.close()
        copy_all(store)
        store.mark()
        store.do(("open", "f"))
        self.assertIsNone(store.barrier())
        self.assertEqual((store.number, store.disk.pending()), (1, []))
        whole = store_state(store)
        store.barrier()
        self.assertEqual(store_state(store), whole)
        for x in (5, 10, 0):
            store.home(x)
        store.barrier()
        self.assertEqual([store.home_ids[x] for x in (0, 5, 10, 6)], [(1, 2), (1, 2), (2, 2), (1, 1)])


def commit_of(store, *deeds, keep):
    """Commit a lot, but leave one write pending."""
    for deed in deeds:
        store.do(deed, wish=11)
    store.close()
    for x in store.due():
        store.copy(x)
    sure_but(store, keep)
    store.mark()
    sure_but(store, keep)


def sure_but(store, keep):
    for number, _, _ in store.disk.pending():
        if number != keep:
            store.sure(number)


class HomeTest(unittest.TestCase):
    def test_home(self):
        store = commit(new_store(), FILE, WORD)
        store.do(("rename", "f", "g"))
        write = store.home(10)
        self.assertEqual(store.disk.pending(), [(write, ("home", 10), tuple(store.committed.cells[10]))])
        kept_out(self, PlaceBusy, store.home, store, 10)
        for x in (11, 12, 23, 63):
            kept_out(self, NotHeld, store.home, store, x)
        # A block that only the running image holds.
        store.do(("sign", "s", 0, "g"))
        kept_out(self, NotHeld, store.home, store, 12)
        store.barrier()
        self.assertEqual(store.home(10), write + 1)

    def test_fixed_blocks(self):
        store = new_store()
        for x in range(10):
            store.home(x)
        store.barrier()
        self.assertEqual(store.home_ids, new_store().home_ids)

    def test_early_with_mark(self):
        store = commit(new_store(), FILE, WORD)
        write = store.early(10)
        self.assertEqual(store.disk.pending(), [(write, ("home", 10), tuple(store.image.cells[10]))])
        kept_out(self, PlaceBusy, store.early, store, 10)
        store.do(("sign", "s", 0, "f"))
        for x in (11, 13, 63):
            kept_out(self, NotHeld, store.early, store, x)
        # NotLet comes before PlaceBusy.
        not_let(self, "mark", store.early, store, 10)
        not_let(self, "mark", store.early, store, 12)
        store.early(1)

    def test_early_without_mark(self):
        store = commit(new_store(without("mark")), FILE, WORD)
        store.do(("sign", "s", 0, "f"))
        write = store.early(12)
        kept_out(self, PlaceBusy, store.early, store, 12)
        store.early(10)
        store.sure(write)
        self.assertEqual((store.home_ids[12], store.disk.home[12]), ((4, 4), tuple(store.image.cells[12])))
        kept_out(self, NotHeld, store.early, store, 11)
        kept_out(self, NotHeld, store.home, store, 12)
        kept_out(self, PlaceBusy, store.home, store, 10)


class WordsTest(unittest.TestCase):
    def test_the_running_image(self):
        store = new_store()
        for deed in (FILE, WORD):
            store.do(deed)
        write = store.words(11)
        self.assertEqual(store.disk.pending(), [(write, ("home", 11), (7,) + (0,) * 7)])
        kept_out(self, PlaceBusy, store.words, store, 11)
        for x in (0, 10, 12, 63):
            kept_out(self, NotHeld, store.words, store, x)
        store.barrier()
        self.assertEqual((store.home_ids[11], store.disk.home[11][0]), ((3, 3), 7))

    def test_the_closing_lot(self):
        store = new_store()
        for deed in (FILE, WORD):
            store.do(deed)
        store.close()
        copy_all(store)
        store.do(("cut", "f", 0))
        store.words(11)
        store.barrier()
        self.assertEqual((store.home_ids[11], store.disk.home[11][0]), ((3, 3), 7))
        store.mark()
        store.barrier()
        # The committed image alone does not count.
        kept_out(self, NotHeld, store.words, store, 11)

    def test_the_running_image_comes_first(self):
        store = new_store()
        for deed in (FILE, WORD):
            store.do(deed)
        store.close()
        copy_all(store)
        store.do(("write", "f", 0, (8,)))
        store.words(11)
        store.barrier()
        self.assertEqual((store.home_ids[11], store.disk.home[11][0]), ((3, 4), 8))

    def test_late(self):
        book = without("reuse", "shelve")
        for text, let in ((book, False), (book - Book(["late"]), True)):
            store = commit(new_store(text), FILE, ("sign", "s", 0, "f"))
            for deed in (("unlink", "s"), ("write", "f", 0, (7,))):
                store.do(deed, wish=11)
            self.assertEqual(store.image.kind(11), 2)
            if not let:
                not_let(self, "late", store.words, store, 11)
                store.home(11)
                # NotLet comes before PlaceBusy.
                not_let(self, "late", store.words, store, 11)
            else:
                store.words(11)
                kept_out(self, PlaceBusy, store.words, store, 11)

    def test_late_asks_for_the_closing_lot_too(self):
        book = without("reuse", "shelve", "wait")
        store = new_store(book)
        for deed in (FILE, WORD):
            store.do(deed)
        store.close()
        for deed in (("cut", "f", 0), ("write", "f", 0, (8,))):
            store.do(deed)
        self.assertEqual(store.image.kind(11), 2)
        not_let(self, "late", store.words, store, 11)
        # A block that the running image has free has its words in the closing lot.
        store.do(("cut", "f", 0))
        store.words(11)
        self.assertEqual(store.disk.pending()[0][2][0], 7)

    def test_late_for_the_closing_lot_itself(self):
        book = without("reuse", "shelve", "wait")
        store = commit(new_store(book), FILE, ("sign", "s", 0, "f"))
        for deed in (("unlink", "s"), ("write", "f", 0, (7,))):
            store.do(deed, wish=11)
        store.close()
        store.do(("cut", "f", 0))
        not_let(self, "late", store.words, store, 11)
        store = commit(new_store(book - Book(["late"])), FILE, ("sign", "s", 0, "f"))
        for deed in (("unlink", "s"), ("write", "f", 0, (7,))):
            store.do(deed, wish=11)
        store.close()
        store.do(("cut", "f", 0))
        store.words(11)


class RoomTest(unittest.TestCase):
    def test_room(self):
        store = new_store()
        kept_out(self, LogEmpty, store.room, store)
        commit(store, FILE)
        commit(store, ("file", "g", 0))
        # Only block 10 and others that the second lot has not copied keep the first one.
        not_let(self, "room", store.room, store)
        for x in (3, 6):
            store.home(x)
        not_let(self, "room", store.room, store)
        store.barrier()
        self.assertEqual(store.home_ids[0], (1, 1))
        not_let(self, "room", store.room, store)
        store.home(0)
        store.barrier()
        self.assertIsNone(store.room())
        self.assertEqual((store.disk.head, [lot.number for lot in store.window]), (1, [2]))
        not_let(self, "room", store.room, store)
        write_home(store)
        store.room()
        self.assertEqual((store.disk.head, store.window), (2, []))
        kept_out(self, LogEmpty, store.room, store)

    def test_without_room(self):
        store = commit(commit(new_store(without("room")), FILE), ("file", "g", 0))
        store.room()
        store.room()
        self.assertEqual((store.disk.head, store.window, store.home_ids[10]), (2, [], (0, 0)))
        kept_out(self, LogEmpty, store.room, store)

    def test_pending_copies_keep_no_home_busy(self):
        store = new_store(without("copies"))
        store.do(FILE)
        store.close()
        for x in store.due():
            store.copy(x)
        store.sure(store.mark())
        self.assertEqual([place for _, place, _ in store.disk.pending()], [("log", slot) for slot in range(5)])
        for x in (0, 3, 5, 6, 10):
            store.sure(store.home(x))
        store.room()
        self.assertEqual((store.disk.head, len(store.disk.pending())), (1, 5))

    def test_the_head_moves_at_once(self):
        store = commit(new_store(without("room")), FILE)
        store.home(10)
        store.room()
        self.assertEqual((store.disk.head, len(store.disk.pending())), (1, 1))


class ToldTest(unittest.TestCase):
    def test_told(self):
        store = commit(new_store(), FILE, WORD)
        self.assertIsNone(store.told())
        self.assertEqual(store.chronicle.safe, 1)
        store.do(("write", "f", 0, (8,)))
        not_let(self, "told", store.told, store)
        store.words(11)
        not_let(self, "told", store.told, store)
        store.barrier()
        self.assertEqual(len(store.chronicle.versions(11, 3)), 2)
        store.told()
        self.assertEqual((store.chronicle.safe, store.chronicle.versions(11, 3)), (1, [(8,) + (0,) * 7]))

    def test_a_lot_is_closing(self):
        store = commit(new_store(), FILE)
        store.close()
        not_let(self, "told", store.told, store)
        store.mark()
        not_let(self, "told", store.told, store)
        store.barrier()
        store.told()
        self.assertEqual(store.chronicle.safe, 2)

    def test_changes_that_are_not_committed(self):
        store = commit(new_store(), FILE)
        store.do(("file", "g", 0))
        not_let(self, "told", store.told, store)
        store.do(("unlink", "g"))
        # The cells are those of the committed image, but not the identities.
        not_let(self, "told", store.told, store)

    def test_without_told(self):
        store = commit(new_store(without("told")), FILE)
        store.do(("file", "g", 0))
        store.told()
        self.assertEqual(store.chronicle.safe, 2)
        store.close()
        copy_all(store)
        store.do(("file", "h", 0))
        store.told()
        self.assertEqual((store.number, store.present, store.chronicle.safe), (1, 3, 3))


class CutTest(unittest.TestCase):
    def test_cut(self):
        store = commit(new_store(), FILE)
        first, second = store.home(10), store.home(5)
        whole = store_state(store)
        disk = store.cut([second])
        self.assertEqual((disk.home[10], disk.home[5]), ((0,) * 8, tuple(store.committed.cells[5])))
        self.assertEqual((disk.last, disk.pending(), disk.log), (0, [], store.disk.log))
        self.assertEqual(store.cut((second, first)).home[10], tuple(store.committed.cells[10]))
        self.assertEqual(store.cut(()).home[5], store.disk.home[5])
        for keep in ([1], [first, first], [first, 99]):
            kept_out(self, NoWrite, store.cut, store, keep)
        disk.home[0] = (9,) * 8
        disk.move_head(7)
        self.assertEqual(store_state(store), whole)


class ResumedTest(unittest.TestCase):
    def parts(self):
        store = commit(new_store(), FILE, WORD)
        return (store.book, store.cut(()), store.image, 4, store.window, store.home_ids)

    def test_resumed(self):
        book, disk, image, number, window, home_ids = self.parts()
        whole = (disk_state(disk), state(image))
        store = Store.resumed(book, disk, image, number, window, home_ids)
        self.assertIs(type(store), Store)
        self.assertEqual((store.plan.text(), store.book, store.number, store.closing), ("plan 24 5 30", book, 4, None))
        self.assertEqual((state(store.image), state(store.committed)), (state(image), state(image)))
        self.assertEqual((disk_state(store.disk), store.window, store.home_ids), (disk_state(disk), window, home_ids))
        self.assertEqual((store.chronicle.safe, 4 in store.chronicle, 0 in store.chronicle), (4, True, False))
        self.assertEqual(store.chronicle.versions(11, 3), [(7,) + (0,) * 7])
        self.assertEqual(store.present, 4)
        self.assertEqual((disk_state(disk), state(image)), whole)

    def test_nothing_is_shared(self):
        book, disk, image, number, window, home_ids = self.parts()
        whole = (disk_state(disk), state(image), list(window), list(home_ids))
        store = Store.resumed(book, disk, image, number, window, home_ids)
        store.image.cells[5][0] = 9
        self.assertEqual((store.committed.cells[5][0], state(image)), (2, whole[1]))
        store.committed.cells[6][0] = 9
        store.home_ids[3] = (9, 9)
        store.window.clear()
        store.disk.issue(("home", 3), [1] * 8)
        store.disk.barrier()
        self.assertEqual((disk_state(disk), state(image), window, home_ids), whole)
        self.assertEqual(store.chronicle.fault(4, image), "")

    def test_a_resumed_store_goes_on(self):
        store = Store.resumed(*self.parts())
        commit(store, ("file", "g", 0))
        self.assertEqual((store.number, [lot.number for lot in store.window]), (5, [1, 5]))
        self.assertEqual(store.window[1].used_slots()[0], 6)


class ManyRulesTest(unittest.TestCase):
    """Each step that a rule forbids is let by the book that lacks only this rule."""

    def test_busy_homes(self):
        store = commit(new_store(), FILE, WORD)
        store.home(10)
        store.words(11)
        self.assertEqual(busy_homes(store), [10, 11])

    def test_words_not_sent_yet(self):
        store = new_store()
        for deed in (FILE, ("write", "f", 0, (1,) * 16)):
            store.do(deed)
        store.close()
        copy_all(store)
        store.words(12)
        store.barrier()
        with self.assertRaises(NotLet) as caught:
            store.mark()
        self.assertEqual(caught.exception.rule, "words")
        send_words(store)
        store.mark()


if __name__ == "__main__":
    unittest.main()
