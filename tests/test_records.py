"""Points 22 and 23: records and their written form."""

import unittest

from lotsandties.errors import BadText, BadValue
from lotsandties.plan import Plan
from lotsandties.records import check_record, copy_record, fits_plan, mark_record, read_record, record_text

CELLS = (0, 0, 5, 0, 0, 0, 0, 9)

GOOD = [
    (("copy", 3, 7, CELLS), "copy 3 7 0 0 5 0 0 0 0 9"),
    (("copy", 1, 0, (0,) * 8), "copy 1 0 0 0 0 0 0 0 0 0"),
    (("copy", 999999, 63, (999999999,) * 8), "copy 999999 63" + " 999999999" * 8),
    (("mark", 3, ((7, 4), (9, -1)), (12,)), "mark 3 copies 7 4 9 - revokes 12"),
    (("mark", 1, (), ()), "mark 1 copies revokes"),
    (("mark", 999999, ((0, 0), (63, 199)), (0, 63)), "mark 999999 copies 0 0 63 199 revokes 0 63"),
    (("mark", 2, ((1, 5), (2, 5)), (1, 2)), "mark 2 copies 1 5 2 5 revokes 1 2"),
    (("mark", 2, (), (5,)), "mark 2 copies revokes 5"),
    (("mark", 2, ((5, -1),), ()), "mark 2 copies 5 - revokes"),
]

BAD = [
    None, 5, "", "mark 1 copies revokes", (), [], ("copy",), ("mark",), ("marks", 1, (), ()), (5, 1, (), ()),
    ["copy", 3, 7, CELLS], ["mark", 1, (), ()], (["mark"], 1, (), ()),
    ("copy", 3, 7), ("copy", 3, 7, CELLS, 1), ("copy", 3, 7, list(CELLS)), ("copy", 3, 7, CELLS[:7]),
    ("copy", 3, 7, CELLS + (0,)), ("copy", 0, 7, CELLS), ("copy", 1000000, 7, CELLS), ("copy", -1, 7, CELLS),
    ("copy", 3, -1, CELLS), ("copy", 3, 64, CELLS), ("copy", True, 7, CELLS), ("copy", 3, True, CELLS),
    ("copy", "3", 7, CELLS), ("copy", 3, "7", CELLS), ("copy", 3, 7, CELLS[:7] + (-1,)),
    ("copy", 3, 7, CELLS[:7] + (10 ** 9,)), ("copy", 3, 7, CELLS[:7] + ("9",)), ("copy", 3, 7, CELLS[:7] + (True,)),
    ("copy", 3, 7, 0), ("copy", 3, 7, "00500009"), ("copy", 3, 7, None), ("copy", 3, (), ()),
    ("mark", 1, ()), ("mark", 1, (), (), ()), ("mark", 0, (), ()), ("mark", 1000000, (), ()), ("mark", True, (), ()),
    ("mark", 1, [], ()), ("mark", 1, (), []), ("mark", 1, ([7, 4],), ()), ("mark", 1, (7, 4), ()),
    ("mark", 1, ((7,),), ()), ("mark", 1, ((7, 4, 1),), ()), ("mark", 1, ((7, 4), (7, 5)), ()),
    ("mark", 1, ((7, 4), (7, 4)), ()), ("mark", 1, ((9, 4), (7, 5)), ()), ("mark", 1, ((7, -2),), ()),
    ("mark", 1, ((7, 200),), ()), ("mark", 1, ((64, 4),), ()), ("mark", 1, ((-1, 4),), ()),
    ("mark", 1, ((7, "-"),), ()), ("mark", 1, (("7", 4),), ()), ("mark", 1, ((7, None),), ()),
    ("mark", 1, ((True, 4),), ()), ("mark", 1, ((7, True),), ()), ("mark", 1, (), (12, 12)), ("mark", 1, (), (12, 5)),
    ("mark", 1, (), (64,)), ("mark", 1, (), (-1,)), ("mark", 1, (), ("5",)), ("mark", 1, (), 5), ("mark", 1, None, ()),
    ("mark", 1, (), (True,)), ("mark", 10 ** 5000, (), ()),
]


class RecordTest(unittest.TestCase):
    def test_records(self):
        for record, text in GOOD:
            self.assertIsNone(check_record(record))
            self.assertEqual(record_text(record), text)
            self.assertEqual(read_record(text), record)
            self.assertIsInstance(read_record(text), tuple)

    def test_other_values(self):
        for value in BAD:
            with self.assertRaises(BadValue):
                check_record(value)
            with self.assertRaises(BadValue):
                record_text(value)

    def test_other_texts(self):
        texts = (
            "", " ", "copy", "mark", "copy 3 7", "copy 3 7 0 0 5 0 0 0 0", "copy 3 7 0 0 5 0 0 0 0 9 1",
            "copy 0 7 0 0 5 0 0 0 0 9", "copy 1000000 7 0 0 5 0 0 0 0 9", "copy 3 64 0 0 5 0 0 0 0 9",
            "copy 3 7 0 0 5 0 0 0 0 1000000000", "copy 3 7 0 0 5 0 0 0 0 09", "copy 3 7 0 0 5 0 0 0 0 -",
            "copy 3 7  0 0 5 0 0 0 0 9", "copy 3 7 0 0 5 0 0 0 0 9 ", "Copy 3 7 0 0 5 0 0 0 0 9", "copy 3 - 0 0 5 0 0 0 0 9",
            "mark 1", "mark 1 copies", "mark 1 revokes", "mark copies revokes", "mark 0 copies revokes",
            "mark 01 copies revokes", "mark 1000000 copies revokes", "mark 1 copies 7 revokes",
            "mark 1 copies 7 4 9 revokes", "mark 1 copies 7 -1 revokes", "mark 1 copies 7 200 revokes",
            "mark 1 copies 64 4 revokes", "mark 1 copies - 4 revokes", "mark 1 copies 9 4 7 5 revokes",
            "mark 1 copies 7 4 7 5 revokes", "mark 1 copies revokes 64", "mark 1 copies revokes 12 5",
            "mark 1 copies revokes 12 12", "mark 1 copies revokes -", "mark 1 copies revokes revokes",
            "mark 1 copies revokes 5 revokes", "mark 1 revokes copies", "mark revokes copies revokes",
            "mark 1 copies  revokes", "mark 1 copies revokes ", " mark 1 copies revokes", "mark 1 copies revokes\n",
            "mark 1 copies (7, 4) revokes", "marks 1 copies revokes", "mark 1 copied revokes",
            "mark 1 copied 7 4 revokes", "mark 1 copies 7 04 revokes",
        )
        for text in texts:
            with self.assertRaises(BadText, msg=text):
                read_record(text)


class MakeRecordTest(unittest.TestCase):
    def test_copies(self):
        cells = list(CELLS)
        record = copy_record(3, 7, cells)
        self.assertEqual(record, ("copy", 3, 7, CELLS))
        self.assertEqual(copy_record(3, 7, CELLS), record)
        cells[0] = 5
        self.assertEqual(record[3], CELLS)
        for lot, block, row in ((0, 7, CELLS), (1000000, 7, CELLS), (3, 64, CELLS), (3, -1, CELLS), (3, 7, CELLS[1:]),
                                (3, 7, [-1] * 8), (3, 7, [10 ** 9] * 8), (3, 7, []), (3, 7, ["0"] * 8), (3, 7, 5),
                                (3, 7, None)):
            with self.assertRaises(BadValue):
                copy_record(lot, block, row)

    def test_marks_in_any_order(self):
        pairs = [(9, -1), (7, 4), (63, 199)]
        revokes = [12, 3]
        record = mark_record(3, pairs, revokes)
        self.assertEqual(record, ("mark", 3, ((7, 4), (9, -1), (63, 199)), (3, 12)))
        self.assertEqual(mark_record(3, tuple(pairs), tuple(revokes)), record)
        self.assertEqual((pairs, revokes), ([(9, -1), (7, 4), (63, 199)], [12, 3]))
        self.assertEqual(mark_record(1, []), ("mark", 1, (), ()))
        self.assertEqual(mark_record(1, ((7, 4),)), ("mark", 1, ((7, 4),), ()))
        self.assertEqual(mark_record(1, [], revokes=(5,)), ("mark", 1, (), (5,)))

    def test_no_marks(self):
        for lot, pairs, revokes in (
            (0, [], []), (1000000, [], []), (1, [(7, 4), (7, 5)], []), (1, [(7, 4), (9, 1), (7, 4)], []),
            (1, [], [12, 12]), (1, [], [12, 3, 12]), (1, [(64, 4)], []), (1, [(-1, 4)], []), (1, [(7, 200)], []),
            (1, [(7, -2)], []), (1, [], [64]), (1, [], [-1]), (1, [[7, 4]], []), (1, [(7,)], []), (1, [(7, 4, 5)], []),
            (1, [7, 4], []), (1, [("7", 4), (7, 4)], []), (1, [], ["12", 12]), (1, [(7, None), (7, 4)], []),
            (1, None, []), (1, [], None), (1, 7, []), (1, [], 12),
        ):
            with self.assertRaises(BadValue, msg=(lot, pairs, revokes)):
                mark_record(lot, pairs, revokes)

    def test_fits_plan(self):
        plan = Plan(24, nodes=5, slots=30)
        fits = [("copy", 1, 23, CELLS), ("copy", 1, 0, CELLS), ("mark", 1, (), ()), ("mark", 1, ((23, 29),), (23,)),
                ("mark", 1, ((0, -1), (23, -1)), (0,))]
        for record in fits:
            self.assertIs(fits_plan(record, plan), True)
        for record in (("copy", 1, 24, CELLS), ("mark", 1, ((24, 0),), ()), ("mark", 1, ((0, 0), (1, 30)), ()),
                       ("mark", 1, (), (24,)), ("mark", 1, ((24, -1),), ()), ("mark", 1, ((0, 0),), (3, 63))):
            self.assertIs(fits_plan(record, plan), False)


if __name__ == "__main__":
    unittest.main()
