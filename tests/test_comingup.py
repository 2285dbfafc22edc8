"""Points 94 to 96: coming up."""

import random
import unittest

from helpers import disk_state, small_plan, state
from making import random_rows
from storing import (
    RIGHT_BOOKS,
    commit,
    empty_log,
    lot_state,
    new_store,
    store_state,
    without,
)

from lotsandties.books import Book
from lotsandties.comingup import come_up, image_after
from lotsandties.cuts import cut_disks
from lotsandties.disk import Disk
from lotsandties.errors import PlaceBusy
from lotsandties.finishing import finish
from lotsandties.image import Image
from lotsandties.plan import Plan
from lotsandties.playing import play
from lotsandties.reading import read_tree
from lotsandties.records import copy_record, mark_record
from lotsandties.sizes import listed
from lotsandties.store import Store
from lotsandties.storemoves import flush


class ImageAfterTest(unittest.TestCase):
    def test_a_new_store(self):
        store = new_store()
        for lapse in (True, False):
            self.assertEqual(state(image_after(store.disk, lapse=lapse)), state(Image.fresh(small_plan())))

    def test_committed_blocks(self):
        store = commit(new_store(), ("file", "f", 0), ("write", "f", 0, (7,)))
        whole = disk_state(store.disk)
        image = image_after(store.disk, lapse=True)
        self.assertEqual(state(image), state(Image.of_cells(store.plan, store.image.cells)))
        self.assertEqual(disk_state(store.disk), whole)

    def test_lapse(self):
        store = commit(commit(new_store(), ("file", "f", 0), ("sign", "s", 0, "f")), ("unlink", "s"),
                       ("sign", "t", 0, "x"))
        self.assertEqual(store.window[1].revokes, (11,))
        self.assertEqual(image_after(store.disk, lapse=True).cells, store.image.cells)
        other = image_after(store.disk, lapse=False)
        self.assertEqual((other.cells[11], store.image.cells[11]), ([0] * 8, [24] + [0] * 7))

    def test_free_blocks_are_empty(self):
        disk = Disk.of_image(Image.fresh(small_plan()))
        disk.issue(("home", 20), [5] * 8)
        disk.barrier()
        self.assertEqual(image_after(disk, lapse=True).cells[20], [0] * 8)


class ComeUpTest(unittest.TestCase):
    def test_a_new_store(self):
        store = new_store()
        self.assertEqual(store_state(come_up(store.disk, store.book)), store_state(store))

    def test_pending_writes(self):
        store = commit(new_store(), ("file", "f", 0))
        store.home(10)
        whole = disk_state(store.disk)
        self.assertRaises(PlaceBusy, come_up, store.disk, store.book)
        self.assertEqual(disk_state(store.disk), whole)

    def test_a_window(self):
        store = commit(new_store(), ("file", "f", 0), ("write", "f", 0, (7,)))
        empty_log(store)
        commit(commit(store, ("sign", "s", 0, "f")), ("rename", "f", "g"))
        disk = store.cut(())
        whole = disk_state(disk)
        found = come_up(disk, store.book)
        self.assertEqual(disk_state(disk), whole)
        self.assertEqual((found.number, found.closing, found.plan.text()), (3, None, store.plan.text()))
        self.assertIs(found.book, store.book)
        image = Image.of_cells(store.plan, store.image.cells)
        self.assertEqual((state(found.image), state(found.committed)), (state(image), state(image)))
        self.assertEqual(disk_state(found.disk), whole)
        self.assertEqual((found.chronicle.safe, [n in found.chronicle for n in range(5)]),
                         (3, [False, False, False, True, False]))
        at_home = [x for x in range(24) if image.kind(x) and disk.home[x] == tuple(image.cells[x])]
        self.assertEqual(found.home_ids, [(1, 1) if x in at_home else (0, 0) for x in range(24)])
        # Blocks 0, 3, 5, 7, 10 and 12 were committed and not written home; 12 is the text of the sign.
        self.assertEqual(at_home, [1, 2, 4, 6, 8, 9, 11])

    def test_lots_of_a_window(self):
        store = commit(new_store(), ("file", "f", 0), ("write", "f", 0, (7,)))
        commit(commit(store, ("sign", "s", 0, "f")), ("unlink", "s"))
        found = come_up(store.cut(()), store.book)
        self.assertEqual([lot.number for lot in found.window], [1, 2, 3])
        for lot, old in zip(found.window, store.window):
            self.assertIsNone(lot.image)
            self.assertEqual((lot.mark, lot.mark_slot, lot.revokes), (0, old.mark_slot, old.revokes))
            self.assertEqual(lot.copies, {x: (slot, 0) for x, (slot, _) in old.copies.items()})
            self.assertEqual(lot.used_slots(), old.used_slots())
        # The last copy of a block counts; the text of the sign, block 12, is struck.
        self.assertEqual([sorted(x for x in lot.identities if lot.identities[x] == (1, 1)) for lot in found.window],
                         [[6], [], [0, 3, 5, 7, 10]])
        self.assertEqual(found.window[1].identities, {x: (0, 0) for x in (0, 3, 5, 7, 10, 12)})

    def test_a_pair_without_a_slot(self):
        store = new_store(without("copies"))
        store.do(("file", "f", 0))
        store.close()
        store.copy(5)
        store.barrier()
        store.mark()
        store.barrier()
        found = come_up(store.cut(()), store.book)
        self.assertEqual((found.window[0].copies, found.window[0].identities), ({5: (0, 0)}, {5: (1, 1)}))
        self.assertEqual((found.window[0].mark_slot, found.number), (1, 1))
        # Blocks without a copy come up as zeros: by this the map is lost.
        self.assertEqual([found.image.cells[x] for x in (0, 3, 6)], [[0] * 8] * 3)
        self.assertEqual(found.image.kind(10), 0)

    def test_a_live_copy_of_a_block_that_is_free_or_plain(self):
        disk = Disk.of_image(Image.fresh(small_plan()))
        cells = list(disk.home[3])
        cells[3] = 2
        for slot, record in enumerate((copy_record(1, 20, [5] * 8), copy_record(1, 11, [6] * 8),
                                       copy_record(1, 3, cells), mark_record(1, [(3, 2), (11, 1), (20, 0)]))):
            disk.issue(("log", slot), record)
        disk.barrier()
        found = come_up(disk, Book.full())
        self.assertEqual([found.image.kind(x) for x in (3, 11, 20)], [1, 2, 0])
        self.assertEqual(found.window[0].identities, {3: (1, 1), 11: (0, 0), 20: (0, 0)})
        self.assertEqual((found.image.cells[11], found.image.cells[20]), ([6] * 8, [0] * 8))
        self.assertEqual([found.home_ids[x] for x in (3, 11, 20)], [(0, 0)] * 3)

    def test_the_book_decides_on_lapse(self):
        store = commit(commit(new_store(), ("file", "f", 0), ("sign", "s", 0, "f")), ("unlink", "s"),
                       ("sign", "t", 0, "x"))
        disk = store.cut(())
        self.assertEqual(come_up(disk, Book.full()).window[1].identities[11], (1, 1))
        found = come_up(disk, without("lapse"))
        self.assertEqual((found.window[1].identities[11], found.image.cells[11]), ((0, 0), [0] * 8))

    def test_marks_of_one_lot_in_two_slots_and_a_lot_that_is_missing(self):
        disk = Disk.of_image(Image.fresh(small_plan()))
        for slot, record in ((9, mark_record(5, [(5, 3)])), (4, mark_record(5, [])), (7, mark_record(7, [])),
                             (6, mark_record(4, []))):
            disk.issue(("log", slot), record)
        disk.barrier()
        disk.move_head(4)
        found = come_up(disk, Book.full())
        self.assertEqual((found.number, [lot.mark_slot for lot in found.window]), (5, [4]))
        self.assertEqual(found.window[0].copies, {})
        disk.move_head(5)
        self.assertEqual((come_up(disk, Book.full()).number, come_up(disk, Book.full()).window), (5, []))
        disk.move_head(3)
        self.assertEqual(come_up(disk, Book.full()).number, 5)

    def test_nothing_is_shared(self):
        store = commit(new_store(), ("file", "f", 0))
        disk = store.cut(())
        found = come_up(disk, store.book)
        whole = store_state(found)
        disk.issue(("home", 5), [9] * 8)
        disk.barrier()
        disk.move_head(3)
        disk.home[6] = (1,) * 8
        self.assertEqual(store_state(found), whole)
        other = store.cut(())
        again = disk_state(other)
        found = come_up(other, store.book)
        commit(found, ("file", "g", 0))
        self.assertEqual(disk_state(other), again)

    def test_twice(self):
        store = commit(commit(new_store(), ("file", "f", 0), ("sign", "s", 0, "f")), ("unlink", "s"),
                       ("write", "f", 0, (1,) * 10))
        found = come_up(store.cut(()), store.book)
        again = come_up(found.cut(()), found.book)
        self.assertEqual(store_state(again), store_state(found))
        self.assertEqual([lot_state(lot) for lot in again.window], [lot_state(lot) for lot in found.window])

    def test_words_and_open_files(self):
        store = commit(new_store(), ("file", "f", 0), ("write", "f", 0, (7,)), ("open", "f"), ("unlink", "f"))
        self.assertEqual(store.image.handles, {2: 1})
        found = come_up(store.cut(()), store.book)
        self.assertEqual((found.image.handles, listed(found.image)), ({}, [2]))


class AfterStopsTest(unittest.TestCase):
    """Point 96: under a right book nothing is lost, whatever is done and wherever the store stops."""

    def test_right_books(self):
        freed = 0
        for k, text in enumerate(RIGHT_BOOKS):
            counts = {"cuts": 0, "stops": 0, "lots": 0, "told": 0, "freed": 0}
            for seed in range(24):
                chance = random.Random(100 * k + seed)
                plan = Plan(chance.choice((14, 17, 28)), nodes=chance.choice((4, 6)), slots=chance.choice((29, 40)))
                self.run_store(Store(plan, Book.read(text)), chance, counts)
            freed += counts.pop("freed")
            for name, least in (("cuts", 1000), ("stops", 100), ("lots", 100), ("told", 50)):
                self.assertGreater(counts[name], least, f"{text}: {name}")
        self.assertGreater(freed, 3)

    def run_store(self, store, chance, counts):
        for _ in range(200):
            if chance.random() < 0.06:
                # Rows by chance alone bring few lots to their marks.
                flush(store)
            rows = random_rows(chance, store)
            outcomes = play(store, rows)
            if rows == [("told",)] and outcomes == [("done", 0)]:
                counts["told"] += 1
            while len(store.disk.pending()) > chance.choice((3, 4, 5, 8)):
                store.sure(chance.choice(store.disk.pending())[0])
            if chance.random() < 0.3:
                self.check_cuts(store, counts)
            if chance.random() < 0.04:
                keep = [number for number, _, _ in store.disk.pending() if chance.random() < 0.5]
                store = self.stop(store, keep, chance, counts)
        counts["lots"] += store.number

    def number_of(self, store, keep):
        """The number of the last lot whose mark is sure or kept."""
        if store.closing is not None and store.closing.mark in keep:
            return store.closing.number
        return store.number

    def check_cuts(self, store, counts):
        for keep, disk in cut_disks(store.disk):
            found = come_up(disk, store.book)
            counts["cuts"] += 1
            self.assertEqual(found.number, self.number_of(store, keep))
            self.assertEqual(store.chronicle.fault(found.number, found.image), "")

    def stop(self, store, keep, chance, counts):
        counts["stops"] += 1
        disk = store.cut(keep)
        found = come_up(disk, store.book)
        self.assertEqual(found.number, self.number_of(store, keep))
        self.assertEqual(store.chronicle.fault(found.number, found.image), "")
        again = come_up(found.cut(()), store.book)
        self.assertEqual(store_state(again), store_state(found))
        if chance.random() < 0.7:
            rows = read_tree(found.image)
            counts["freed"] += finish(found)
            self.assertEqual((listed(found.image), read_tree(found.image)), ([], rows))
        return found


if __name__ == "__main__":
    unittest.main()
