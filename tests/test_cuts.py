"""Points 29 and 30: cuts, differences, and the written form of disks."""

import unittest

from helpers import disk_state, small_plan

from lotsandties.cuts import cut_disks, differences, keeps
from lotsandties.disk import Disk
from lotsandties.disktext import disk_text, read_disk
from lotsandties.errors import BadText, BadValue, PlaceBusy
from lotsandties.plan import Plan
from lotsandties.records import copy_record, mark_record

ROW = (1, 2, 3, 4, 5, 6, 7, 8)
COPY = copy_record(3, 7, ROW)
MARK = mark_record(3, [(7, 4)], [12])


class KeepsTest(unittest.TestCase):
    def test_sublists(self):
        self.assertEqual(list(keeps([4, 7])), [(), (4,), (7,), (4, 7)])
        self.assertEqual(list(keeps((7, 4))), [(), (7,), (4,), (7, 4)])
        self.assertEqual(list(keeps([1, 2, 3])), [(), (1,), (2,), (1, 2), (3,), (1, 3), (2, 3), (1, 2, 3)])

    def test_none_and_eight(self):
        self.assertEqual(list(keeps([])), [()])
        numbers = [3, 1, 4, 15, 9, 2, 6, 5]
        found = list(keeps(numbers))
        expected = [tuple(numbers[k] for k in range(8) if count // 2 ** k % 2) for count in range(256)]
        self.assertEqual(found, expected)
        self.assertEqual(numbers, [3, 1, 4, 15, 9, 2, 6, 5])

    def test_nine(self):
        for numbers in (list(range(9)), tuple(range(20))):
            with self.assertRaises(BadValue):
                next(keeps(numbers))


class CutDisksTest(unittest.TestCase):
    def disk(self, many):
        disk = Disk(small_plan())
        disk.issue(("home", 20), ROW)
        disk.barrier()
        for x in range(many):
            disk.issue(("home", x), ROW)
        return disk

    def test_each_choice(self):
        disk = self.disk(3)
        disk.sure(3)
        disk.issue(("log", 4), COPY)
        whole = disk_state(disk)
        found = list(cut_disks(disk))
        self.assertEqual([keep for keep, _ in found], list(keeps([2, 4, 5])))
        for keep, cut in found:
            self.assertEqual(disk_state(cut), disk_state(disk.cut(keep)))
        self.assertEqual(disk_state(disk), whole)
        found[0][1].issue(("home", 9), ROW)
        found[0][1].barrier()
        self.assertEqual(found[1][1].home[9], (0,) * 8)
        self.assertEqual(disk_state(disk), whole)

    def test_none_eight_and_nine(self):
        found = list(cut_disks(self.disk(0)))
        self.assertEqual([keep for keep, _ in found], [()])
        self.assertEqual(found[0][1].home[20], ROW)
        self.assertEqual(len(list(cut_disks(self.disk(8)))), 256)
        with self.assertRaises(BadValue):
            next(cut_disks(self.disk(9)))


class DifferencesTest(unittest.TestCase):
    def test_places(self):
        first, second = Disk(small_plan()), Disk(small_plan())
        self.assertEqual(differences(first, second), [])
        for place, what in ((("log", 29), MARK), (("log", 0), COPY), (("home", 23), ROW), (("home", 2), ROW)):
            first.issue(place, what)
        self.assertEqual(differences(first, second), [])
        first.barrier()
        places = [("home", 2), ("home", 23), ("log", 0), ("log", 29)]
        self.assertEqual(differences(first, second), places)
        self.assertEqual(differences(second, first), places)
        second.move_head(1)
        self.assertEqual(differences(first, second), places + [("head",)])
        self.assertEqual(differences(first, first.twin()), [])

    def test_last_is_not_compared(self):
        first, second = Disk(small_plan()), Disk(small_plan())
        first.issue(("home", 2), (0,) * 8)
        first.barrier()
        self.assertEqual(differences(first, second), [])

    def test_records_that_differ(self):
        first, second = Disk(small_plan()), Disk(small_plan())
        first.issue(("log", 4), COPY)
        second.issue(("log", 4), copy_record(4, 7, ROW))
        first.barrier()
        second.barrier()
        self.assertEqual(differences(first, second), [("log", 4)])

    def test_plans(self):
        self.assertEqual(differences(Disk(small_plan()), Disk(small_plan())), [])
        for plan in (Plan(25, nodes=5, slots=30), Plan(24, nodes=4, slots=30), Plan(24, nodes=5, slots=31)):
            with self.assertRaises(BadValue):
                differences(Disk(small_plan()), Disk(plan))


EXAMPLE = """plan 24 5 30
head 2
home 5 2 1 0 0 0 0 0 1
log 4 copy 3 7 0 0 5 0 0 0 0 9"""


class DiskTextTest(unittest.TestCase):
    def test_the_example_of_the_document(self):
        disk = Disk(small_plan())
        disk.move_head(2)
        disk.issue(("log", 4), ("copy", 3, 7, (0, 0, 5, 0, 0, 0, 0, 9)))
        disk.issue(("home", 5), (2, 1, 0, 0, 0, 0, 0, 1))
        disk.barrier()
        self.assertEqual(disk_text(disk), EXAMPLE)
        found = read_disk(EXAMPLE)
        self.assertIsInstance(found, Disk)
        self.assertEqual(differences(disk, found), [])
        self.assertEqual((found.last, found.quiet, found.head, found.plan.text()), (0, True, 2, "plan 24 5 30"))
        self.assertEqual((len(found.home), len(found.log)), (24, 30))
        self.assertIsInstance(found.home[5], tuple)

    def test_a_new_disk(self):
        self.assertEqual(disk_text(Disk(small_plan())), "plan 24 5 30\nhead 0")
        self.assertEqual(differences(read_disk("plan 24 5 30\nhead 0"), Disk(small_plan())), [])
        self.assertEqual(read_disk("plan 64 16 200\nhead 999999").head, 999999)

    def test_all_lines_ascending(self):
        disk = Disk(small_plan())
        for place, what in ((("log", 29), MARK), (("log", 0), mark_record(1, [(9, -1)])), (("home", 23), ROW),
                            (("home", 0), ROW), (("home", 7), (0,) * 8)):
            disk.issue(place, what)
        disk.barrier()
        text = "\n".join((
            "plan 24 5 30", "head 0", "home 0 1 2 3 4 5 6 7 8", "home 23 1 2 3 4 5 6 7 8",
            "log 0 mark 1 copies 9 - revokes", "log 29 mark 3 copies 7 4 revokes 12",
        ))
        self.assertEqual(disk_text(disk), text)
        self.assertEqual(disk_text(read_disk(text)), text)
        self.assertEqual(disk.last, 5)

    def test_pending_writes(self):
        disk = read_disk(EXAMPLE)
        disk.issue(("home", 5), ROW)
        with self.assertRaises(PlaceBusy):
            disk_text(disk)
        disk.barrier()
        self.assertIn("home 5 1 2 3 4 5 6 7 8", disk_text(disk))

    def test_spoilt_plans_and_heads(self):
        for text in (
            "", "\n", "plan 24 5 30", "plan 24 5 30\n", "head 0", "head 0\nplan 24 5 30", "plan 24 5\nhead 0",
            "plan 7 5 30\nhead 0", "plan 24 5 24\nhead 0", "plan 24 5 30\nhead", "plan 24 5 30\nhead 1000000",
            "plan 24 5 30\nhead -1", "plan 24 5 30\nhead 01", "plan 24 5 30\nhead 0 0", "plan 24 5 30\nhead 0\n",
            "plan 24 5 30\n\nhead 0", " plan 24 5 30\nhead 0", "plan 24 5 30\nhead  0", "plan 24 5 30\nhead 0\nhead 0",
            "plan 24 5 30\nhead 0\nplan 24 5 30", "plan 24 5 30\r\nhead 0", "plan 24 5 30\ntail 0",
        ):
            with self.assertRaises(BadText, msg=text):
                read_disk(text)

    def test_spoilt_lines(self):
        good = "home 5 2 1 0 0 0 0 0 1"
        for line in (
            "", "home", "home 5", "home 5 2 1 0 0 0 0 0", "home 5 2 1 0 0 0 0 0 1 1", "home 24 2 1 0 0 0 0 0 1",
            "home -1 2 1 0 0 0 0 0 1", "home 05 2 1 0 0 0 0 0 1", "home 6 0 0 0 0 0 0 0 0", "home 6 2 1 0 0 0 0 0 1000000000",
            "home 4 2 1 0 0 0 0 0 1", good, "home 5 1 1 1 1 1 1 1 1", "home 6 2 1 0 0 0 0 0 01", "home  6 2 1 0 0 0 0 0 1",
            "home 6 2 1 0 0 0 0 0 1 ", "house 6 2 1 0 0 0 0 0 1", "log", "log 4", "log 30 mark 1 copies revokes",
            "log 4 mark 1 copies", "log 04 mark 1 copies revokes", "log 4 copy 3 24 0 0 5 0 0 0 0 9",
            "log 4 mark 1 copies 24 0 revokes", "log 4 mark 1 copies 0 30 revokes", "log 4 mark 1 copies revokes 24",
            "log 4 mark 0 copies revokes", "log 4  mark 1 copies revokes", "log 4 mark 1 copies revokes ", "log - mark 1 copies revokes",
            "lug 4 mark 1 copies revokes",
        ):
            with self.assertRaises(BadText, msg=line):
                read_disk(f"plan 24 5 30\nhead 2\n{good}\n{line}")

    def test_lines_out_of_order(self):
        home, log = "home 5 2 1 0 0 0 0 0 1", "log 4 mark 1 copies revokes"
        self.assertEqual(read_disk(f"plan 24 5 30\nhead 2\n{home}\n{log}").home[5], (2, 1, 0, 0, 0, 0, 0, 1))
        for lines in ((log, home), (log, log), (log, "log 3 mark 1 copies revokes"), (home, log, home)):
            with self.assertRaises(BadText):
                read_disk("\n".join(("plan 24 5 30", "head 2") + lines))

    def test_read_disks_are_their_own(self):
        first, second = read_disk(EXAMPLE), read_disk(EXAMPLE)
        first.issue(("home", 5), ROW)
        first.barrier()
        self.assertEqual(disk_text(second), EXAMPLE)


if __name__ == "__main__":
    unittest.main()
