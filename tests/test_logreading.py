"""Points 91 to 93: reading the log."""

import unittest

from helpers import disk_state, small_plan
from storing import commit, new_store, without

from lotsandties.disk import Disk
from lotsandties.logreading import cells_after, found_marks, live_copy, slots_read
from lotsandties.plan import Plan
from lotsandties.records import copy_record, mark_record


def row(word):
    return (word,) * 8


def disk_with(head, plan=None, **records):
    """A disk with records in its slots (s0, s1, ..), and in each home its own number."""
    disk = Disk(plan or small_plan())
    for x in range(disk.plan.blocks):
        disk.issue(("home", x), row(100 + x))
    for slot, record in records.items():
        disk.issue(("log", int(slot[1:])), record)
    disk.barrier()
    disk.move_head(head)
    return disk


class MarksTest(unittest.TestCase):
    def test_none(self):
        self.assertEqual(found_marks(Disk(small_plan())), [])
        self.assertEqual(found_marks(disk_with(0, s0=copy_record(1, 5, row(1)), s1=mark_record(2, []))), [])

    def test_marks_behind_the_head(self):
        marks = {f"s{slot}": mark_record(lot, [(5, lot)]) for slot, lot in ((9, 3), (2, 4), (5, 5), (4, 7), (6, 2))}
        disk = disk_with(2, **marks)
        whole = disk_state(disk)
        self.assertEqual(found_marks(disk), [(9, ("mark", 3, ((5, 3),), ())), (2, ("mark", 4, ((5, 4),), ())),
                                             (5, ("mark", 5, ((5, 5),), ()))])
        self.assertEqual(disk_state(disk), whole)
        # A lot without a mark ends the row, and so does the head begin it.
        for head, lots in ((0, []), (1, [2, 3, 4, 5]), (4, [5]), (5, []), (6, [7]), (7, [])):
            disk.move_head(head)
            self.assertEqual([mark[1] for _, mark in found_marks(disk)], lots)

    def test_marks_of_one_lot_in_two_slots(self):
        disk = disk_with(0, s8=mark_record(1, [(5, 1)]), s3=mark_record(1, [(6, 2)]), s4=mark_record(2, []),
                         s29=mark_record(2, [(7, 7)]))
        self.assertEqual(found_marks(disk), [(3, ("mark", 1, ((6, 2),), ())), (4, ("mark", 2, (), ()))])

    def test_pending_marks_do_not_count(self):
        disk = disk_with(0)
        disk.issue(("log", 0), mark_record(1, []))
        self.assertEqual(found_marks(disk), [])
        disk.barrier()
        self.assertEqual(len(found_marks(disk)), 1)


class LiveCopyTest(unittest.TestCase):
    def live(self, *marks, x=12):
        rows = [(20 + k, mark) for k, mark in enumerate(marks)]
        return tuple(live_copy(rows, x, lapse=lapse) for lapse in (True, False))

    def test_none(self):
        self.assertEqual(self.live(), (None, None))
        self.assertEqual(self.live(mark_record(3, [(11, 4)])), (None, None))

    def test_the_last_one(self):
        marks = (mark_record(3, [(12, 4), (13, 5)]), mark_record(4, [(12, 9)]), mark_record(5, [(13, 1)]))
        self.assertEqual(self.live(*marks), ((4, 9), (4, 9)))
        self.assertEqual(self.live(*marks, x=13), ((5, 1), (5, 1)))

    def test_no_slot(self):
        marks = (mark_record(3, [(12, 4)]), mark_record(4, [(12, -1)]))
        self.assertEqual(self.live(*marks), ((4, -1), (4, -1)))

    def test_struck(self):
        first = mark_record(3, [(12, 4)])
        self.assertEqual(self.live(first, mark_record(4, [], [12])), (None, None))
        self.assertEqual(self.live(first, mark_record(4, [(13, 1)], [11, 13])), ((3, 4), (3, 4)))
        self.assertEqual(self.live(first, mark_record(4, [(12, 8)], [12])), ((4, 8), None))
        self.assertEqual(self.live(first, mark_record(4, [], [12]), mark_record(5, [(12, 2)])), ((5, 2), (5, 2)))
        self.assertEqual(self.live(mark_record(3, [(12, 4)], [12]), mark_record(4, [(12, 6)])), ((4, 6), (4, 6)))
        self.assertEqual(self.live(mark_record(3, [(12, 4)], [12]), mark_record(4, [], [12])), (None, None))


class CellsTest(unittest.TestCase):
    def test_cells(self):
        disk = disk_with(2, s4=copy_record(3, 12, row(7)), s5=copy_record(3, 13, row(8)),
                         s6=mark_record(3, [(12, 4), (13, -1), (14, 5), (15, 9), (16, 6)]))
        marks = found_marks(disk)
        whole = disk_state(disk)
        for lapse in (True, False):
            cells = {x: cells_after(disk, marks, x, lapse=lapse) for x in range(11, 18)}
            # 13 has no slot, 14 a copy of another block, 15 an empty slot, 16 a mark.
            self.assertEqual(cells, {11: row(111), 12: row(7), 13: row(0), 14: row(0), 15: row(0), 16: row(0),
                                     17: row(117)})
        self.assertEqual(disk_state(disk), whole)
        self.assertIsInstance(cells_after(disk, marks, 11, lapse=True), tuple)

    def test_the_copy_of_another_lot(self):
        disk = disk_with(2, s4=copy_record(2, 12, row(7)), s6=mark_record(3, [(12, 4)]))
        self.assertEqual(cells_after(disk, found_marks(disk), 12, lapse=True), row(0))

    def test_struck_copies(self):
        disk = disk_with(2, s4=copy_record(3, 12, row(7)), s5=copy_record(4, 12, row(8)),
                         s6=mark_record(3, [(12, 4)]), s7=mark_record(4, [(12, 5)], [12]))
        marks = found_marks(disk)
        self.assertEqual(cells_after(disk, marks, 12, lapse=True), row(8))
        self.assertEqual(cells_after(disk, marks, 12, lapse=False), row(112))
        self.assertEqual(cells_after(disk, marks[:1], 12, lapse=False), row(7))
        self.assertEqual(cells_after(disk, [], 12, lapse=True), row(112))

    def test_marks_of_another_disk(self):
        disk = disk_with(0, s4=copy_record(3, 12, row(7)))
        marks = [(0, mark_record(3, [(12, 4), (13, 199), (14, 30), (50, 4)]))]
        self.assertEqual([cells_after(disk, marks, x, lapse=True) for x in (12, 13, 14, 15)],
                         [row(7), row(0), row(0), row(115)])
        other = disk_with(0, plan=Plan(20, nodes=2, slots=21))
        self.assertEqual(cells_after(other, found_marks(disk_with(2, s29=mark_record(3, [(12, 28)]))), 12, lapse=True),
                         row(0))


class SlotsTest(unittest.TestCase):
    def test_slots_read(self):
        self.assertEqual(slots_read(Disk(small_plan()), lapse=True), [])
        disk = disk_with(2, s4=copy_record(3, 12, row(7)), s5=copy_record(4, 12, row(8)), s8=copy_record(4, 13, row(9)),
                         s6=mark_record(3, [(12, 4), (14, -1), (15, 20)]),
                         s7=mark_record(4, [(12, 5), (13, 8), (16, 20)], [13]), s9=mark_record(6, [(17, 3)]))
        whole = disk_state(disk)
        self.assertEqual(slots_read(disk, lapse=True), [5, 6, 7, 8, 20])
        self.assertEqual(slots_read(disk, lapse=False), [5, 6, 7, 20])
        self.assertEqual(disk_state(disk), whole)
        disk.move_head(3)
        self.assertEqual(slots_read(disk, lapse=True), [5, 7, 8, 20])

    def test_a_copy_in_another_slot_has_no_effect(self):
        for book in (without("lapse"), new_store().book):
            store = commit(commit(new_store(book), ("file", "f", 0), ("sign", "s", 0, "f")), ("unlink", "s"),
                           ("sign", "t", 0, "f"))
            lapse = "lapse" in book
            read = slots_read(store.disk, lapse=lapse)
            marks = found_marks(store.disk)
            before = [cells_after(store.disk, marks, x, lapse=lapse) for x in range(24)]
            for slot in range(30):
                disk = store.disk.twin()
                disk.issue(("log", slot), copy_record(2, 11, row(55)))
                disk.barrier()
                after = [cells_after(disk, found_marks(disk), x, lapse=lapse) for x in range(24)]
                self.assertTrue(slot in read or after == before, slot)

    def test_lists_are_new(self):
        disk = disk_with(2, s6=mark_record(3, []))
        slots_read(disk, lapse=True).clear()
        found_marks(disk).clear()
        self.assertEqual((slots_read(disk, lapse=True), len(found_marks(disk))), ([6], 1))


if __name__ == "__main__":
    unittest.main()
