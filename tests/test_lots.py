"""Point 76: lots."""

import unittest

from helpers import fresh

from lotsandties.lots import Lot


class LotTest(unittest.TestCase):
    def test_a_new_lot(self):
        image = fresh()
        lot = Lot(7, image)
        self.assertEqual((lot.number, lot.copies, lot.identities, lot.mark, lot.mark_slot, lot.revokes),
                         (7, {}, {}, 0, -1, ()))
        self.assertIs(lot.image, image)
        self.assertIsNone(Lot(1, None).image)
        self.assertEqual(lot.used_slots(), [])

    def test_lots_share_nothing(self):
        first, second = Lot(1, None), Lot(2, None)
        first.keep_copy(3, 0, 1, (1, 1))
        self.assertEqual((second.copies, second.identities), ({}, {}))

    def test_copies(self):
        lot = Lot(1, None)
        self.assertIsNone(lot.keep_copy(9, 4, 11, (2, 3)))
        lot.keep_copy(5, 2, 12, (1, 1))
        self.assertEqual((lot.copies, lot.identities), ({9: (4, 11), 5: (2, 12)}, {9: (2, 3), 5: (1, 1)}))
        lot.keep_copy(9, 6, 13, (2, 5))
        self.assertEqual((lot.copies[9], lot.identities[9]), ((6, 13), (2, 5)))
        self.assertEqual(lot.used_slots(), [2, 6])

    def test_the_mark(self):
        lot = Lot(1, None)
        revokes = [12, 14]
        self.assertIsNone(lot.keep_mark(0, 8, revokes))
        revokes.append(15)
        self.assertEqual((lot.mark, lot.mark_slot, lot.revokes), (8, 0, (12, 14)))
        self.assertEqual(lot.used_slots(), [0])
        lot.keep_mark(3, 9, ())
        self.assertEqual((lot.mark, lot.mark_slot, lot.revokes), (9, 3, ()))

    def test_used_slots(self):
        lot = Lot(1, None)
        lot.keep_copy(9, 4, 11, (2, 3))
        lot.keep_copy(5, -1, 12, (2, 3))
        lot.keep_copy(6, 2, 12, (2, 3))
        lot.keep_copy(7, 4, 12, (2, 3))
        self.assertEqual(lot.used_slots(), [2, 4])
        lot.keep_mark(2, 13, ())
        self.assertEqual(lot.used_slots(), [2, 4])
        lot.keep_mark(0, 13, ())
        self.assertEqual(lot.used_slots(), [0, 2, 4])
        lot.used_slots().clear()
        self.assertEqual(lot.used_slots(), [0, 2, 4])


if __name__ == "__main__":
    unittest.main()
