"""Points 21 and 24 to 28: disks."""

import unittest

from helpers import disk_state, fresh, small_plan, state

from lotsandties.disk import Disk
from lotsandties.errors import BadValue, NoWrite, PlaceBusy
from lotsandties.plan import Plan
from lotsandties.records import copy_record, mark_record

ROW = (1, 2, 3, 4, 5, 6, 7, 8)
OTHER = (9, 9, 9, 9, 9, 9, 9, 9)
EMPTY = (0,) * 8
COPY = copy_record(3, 7, ROW)
MARK = mark_record(3, [(7, 4)], [12])


class NewDiskTest(unittest.TestCase):
    def test_a_new_disk(self):
        for plan in (small_plan(), Plan(8, nodes=2, slots=200)):
            disk = Disk(plan)
            self.assertIs(disk.plan, plan)
            self.assertEqual(disk.home, [EMPTY] * plan.blocks)
            self.assertEqual(disk.log, [None] * plan.slots)
            self.assertEqual((disk.head, disk.last, disk.quiet, disk.pending()), (0, 0, True, []))

    def test_of_image(self):
        image = fresh()
        image.take(2, 1)
        image.cells[10][3] = 5
        whole = state(image)
        disk = Disk.of_image(image)
        self.assertIsInstance(disk, Disk)
        self.assertEqual(disk.home, [tuple(row) for row in image.cells])
        self.assertEqual((disk.plan.text(), disk.log, disk.head, disk.last), ("plan 24 5 30", [None] * 30, 0, 0))
        self.assertTrue(disk.quiet)
        image.cells[10][3] = 6
        self.assertEqual(disk.home[10][3], 5)
        image.cells[10][3] = 5
        disk.issue(("home", 10), ROW)
        disk.barrier()
        self.assertEqual(state(image), whole)


class IssueTest(unittest.TestCase):
    def test_numbers(self):
        disk = Disk(small_plan())
        self.assertEqual(disk.issue(("home", 5), ROW), 1)
        self.assertEqual(disk.issue(("log", 5), COPY), 2)
        self.assertEqual(disk.issue(("log", 0), MARK), 3)
        self.assertEqual(disk.last, 3)
        disk.barrier()
        self.assertEqual(disk.issue(("home", 5), ROW), 4)

    def test_an_issued_write_changes_no_place(self):
        disk = Disk(small_plan())
        disk.issue(("home", 5), ROW)
        disk.issue(("log", 5), COPY)
        self.assertEqual((disk.home, disk.log, disk.head), ([EMPTY] * 24, [None] * 30, 0))
        self.assertIs(disk.quiet, False)

    def test_pending_and_busy(self):
        disk = Disk(small_plan())
        cells = list(ROW)
        disk.issue(("log", 29), MARK)
        disk.issue(("home", 0), cells)
        cells[0] = 99
        expected = [(1, ("log", 29), MARK), (2, ("home", 0), ROW)]
        self.assertEqual(disk.pending(), expected)
        self.assertIsInstance(disk.pending()[1][2], tuple)
        disk.pending().clear()
        self.assertEqual(disk.pending(), expected)
        for place, busy in ((("log", 29), True), (("home", 0), True), (("home", 29), False), (("log", 0), False)):
            self.assertIs(disk.busy(place), busy)
        disk.sure(1)
        self.assertIs(disk.busy(("log", 29)), False)
        self.assertEqual(disk.pending(), expected[1:])

    def test_the_order_of_issue(self):
        disk = Disk(small_plan())
        for x in (9, 3, 7, 5):
            disk.issue(("home", x), ROW)
        disk.sure(2)
        disk.issue(("home", 3), OTHER)
        self.assertEqual([(number, place[1]) for number, place, _ in disk.pending()], [(1, 9), (3, 7), (4, 5), (5, 3)])

    def test_contents_are_kept_as_tuples(self):
        disk = Disk(small_plan())
        disk.issue(("home", 5), list(ROW))
        disk.barrier()
        self.assertEqual(disk.home[5], ROW)
        self.assertIsInstance(disk.home[5], tuple)

    def test_wrong_places(self):
        disk = Disk(small_plan())
        for place in (("home", 24), ("home", -1), ("log", 30), ("log", -1), ("head",), ("home",), ("home", 5, 5), (),
                      None, "home", 5, ["home", 5], ("house", 5), ("home", "5"), ("home", True), ("home", None),
                      (5, "home"), ("home", (5,))):
            for what in (ROW, COPY):
                with self.assertRaises(BadValue, msg=place):
                    disk.issue(place, what)
        self.assertEqual((disk.last, disk.pending()), (0, []))

    def test_wrong_contents(self):
        disk = Disk(small_plan())
        for what in (None, 5, (), [], ROW[1:], ROW + (9,), (-1,) * 8, (10 ** 9,) * 8, ("0",) * 8, COPY, MARK, "00000000",
                     (True,) * 8, {k: 0 for k in range(8)}):
            with self.assertRaises(BadValue, msg=what):
                disk.issue(("home", 5), what)
        for what in (None, 5, (), ROW, list(COPY), ("copy", 3, 7, list(ROW)), ("copy", 0, 7, ROW), copy_record(3, 24, ROW),
                     mark_record(3, [(24, 0)]), mark_record(3, [(0, 30)]), mark_record(3, [], [24]), "mark 1 copies revokes"):
            with self.assertRaises(BadValue, msg=what):
                disk.issue(("log", 5), what)
        self.assertEqual((disk.last, disk.quiet), (0, True))
        self.assertEqual(disk.issue(("home", 23), (999999999,) * 8), 1)
        self.assertEqual(disk.issue(("log", 29), mark_record(3, [(23, 29), (4, -1)], [23])), 2)

    def test_a_busy_place(self):
        disk = Disk(small_plan())
        disk.issue(("home", 5), ROW)
        disk.issue(("log", 5), COPY)
        whole = disk_state(disk)
        for place, what in ((("home", 5), OTHER), (("home", 5), ROW), (("log", 5), MARK)):
            with self.assertRaises(PlaceBusy):
                disk.issue(place, what)
        with self.assertRaises(BadValue):
            disk.issue(("home", 5), ROW[1:])
        with self.assertRaises(BadValue):
            disk.issue(("log", 5), copy_record(1, 63, ROW))
        self.assertEqual(disk_state(disk), whole)
        self.assertEqual(disk.issue(("home", 6), ROW), 3)
        disk.sure(1)
        self.assertEqual(disk.issue(("home", 5), OTHER), 4)


class SureTest(unittest.TestCase):
    def test_sure(self):
        disk = Disk(small_plan())
        disk.issue(("home", 5), ROW)
        disk.issue(("log", 4), COPY)
        self.assertIsNone(disk.sure(2))
        self.assertEqual((disk.log[4], disk.home[5], disk.quiet, disk.last), (COPY, EMPTY, False, 2))
        disk.sure(1)
        self.assertEqual((disk.home[5], disk.quiet), (ROW, True))

    def test_no_write(self):
        disk = Disk(small_plan())
        disk.issue(("home", 5), ROW)
        disk.issue(("home", 6), ROW)
        disk.sure(1)
        whole = disk_state(disk)
        for number in (0, 1, 3, -1, 999999):
            with self.assertRaises(NoWrite):
                disk.sure(number)
        self.assertEqual(disk_state(disk), whole)

    def test_barrier(self):
        disk = Disk(small_plan())
        self.assertIsNone(disk.barrier())
        disk.issue(("home", 5), ROW)
        disk.issue(("log", 4), COPY)
        disk.issue(("log", 3), MARK)
        self.assertIsNone(disk.barrier())
        self.assertEqual((disk.home[5], disk.log[4], disk.log[3]), (ROW, COPY, MARK))
        self.assertEqual((disk.quiet, disk.last, disk.pending()), (True, 3, []))

    def test_move_head(self):
        disk = Disk(small_plan())
        for p in (7, 999999, 0, 1):
            self.assertIsNone(disk.move_head(p))
            self.assertEqual(disk.head, p)
        for p in (-1, 1000000, 10 ** 9):
            with self.assertRaises(BadValue):
                disk.move_head(p)
        self.assertEqual(disk.head, 1)


class CutTest(unittest.TestCase):
    def disk(self):
        disk = Disk(small_plan())
        disk.issue(("home", 3), OTHER)
        disk.barrier()
        disk.move_head(6)
        disk.issue(("home", 5), ROW)
        disk.issue(("log", 4), COPY)
        disk.issue(("home", 3), ROW)
        return disk

    def test_cut(self):
        disk = self.disk()
        whole = disk_state(disk)
        found = disk.cut()
        self.assertEqual((found.home[3], found.home[5], found.log[4], found.head), (OTHER, EMPTY, None, 6))
        self.assertEqual((found.last, found.quiet, found.plan.text()), (0, True, "plan 24 5 30"))
        for keep in ((2,), [2], [4, 2, 3], (3, 4)):
            found = disk.cut(keep)
            self.assertEqual(found.home[5], ROW if 2 in keep else EMPTY)
            self.assertEqual(found.log[4], COPY if 3 in keep else None)
            self.assertEqual(found.home[3], ROW if 4 in keep else OTHER)
            self.assertEqual((found.head, found.last, found.pending()), (6, 0, []))
        self.assertEqual(disk_state(disk), whole)

    def test_no_write(self):
        disk = self.disk()
        whole = disk_state(disk)
        for keep in ([1], [5], [0], (2, 2), [2, 3, 2], [2, 9], (-1,), [4, 3, 2, 1]):
            copy = list(keep)
            with self.assertRaises(NoWrite, msg=keep):
                disk.cut(keep)
            self.assertEqual(list(keep), copy)
        self.assertEqual(disk_state(disk), whole)

    def test_the_found_disk_is_its_own(self):
        disk = self.disk()
        whole = disk_state(disk)
        found = disk.cut([2])
        self.assertEqual(found.issue(("home", 3), EMPTY), 1)
        found.issue(("log", 4), MARK)
        found.barrier()
        found.move_head(9)
        self.assertEqual(disk_state(disk), whole)
        found = disk.cut([2])
        whole = disk_state(found)
        disk.barrier()
        disk.move_head(1)
        self.assertEqual(disk_state(found), whole)

    def test_twin(self):
        disk = self.disk()
        twin = disk.twin()
        self.assertEqual(disk_state(twin), disk_state(disk))
        self.assertEqual((twin.last, twin.quiet), (4, False))
        whole = disk_state(disk)
        twin.sure(2)
        twin.issue(("log", 9), MARK)
        twin.move_head(0)
        self.assertEqual(disk_state(disk), whole)
        twin = disk.twin()
        disk.barrier()
        disk.move_head(8)
        self.assertEqual(disk_state(twin), whole)
        self.assertEqual(twin.issue(("log", 9), MARK), 5)


if __name__ == "__main__":
    unittest.main()
