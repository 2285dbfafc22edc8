"""Points 77 to 79: what must wait for what."""

import unittest

from helpers import done, fresh, state

from lotsandties.acting import do_deed, do_deeds
from lotsandties.books import Book
from lotsandties.lots import Lot
from lotsandties.places import place_block
from lotsandties.rulings import (
    barred_blocks,
    due_blocks,
    live_lot,
    may_leave,
    may_send_words,
    may_tell,
    new_plain_blocks,
    present_number,
    revoked_blocks,
    same_logged,
    unsent_blocks,
)


def images():
    """An image with the file f and its block 11, and one behind it in which that is gone and a sign is new.

    Block 10 has the names of the root, 11 the words of f; behind it 11 has the text of the sign s.
    """
    committed = done(("file", "f", 0), ("write", "f", 0, (7,)), ("sign", "t", 0, "f"))
    image, _ = do_deeds(committed, ("unlink", "f"), ("sign", "s", 0, "a"), ("file", "g", 0), ("write", "g", 0, (8,)))
    return (image, committed)


class TwoImagesTest(unittest.TestCase):
    def test_the_blocks(self):
        image, committed = images()
        self.assertEqual([committed.kind(x) for x in range(10, 14)], [1, 2, 1, 0])
        self.assertEqual([image.kind(x) for x in range(10, 14)], [1, 1, 1, 2])

    def test_equal_images(self):
        image, committed = images()
        for one in (image, committed, fresh()):
            for step in (due_blocks, revoked_blocks, new_plain_blocks):
                self.assertEqual(step(one, one.twin()), [])
            self.assertTrue(same_logged(one, one.twin()))

    def test_due_blocks(self):
        image, committed = images()
        whole = (state(image), state(committed))
        self.assertEqual(due_blocks(image, committed), [0, 3, 5, 6, 8, 10, 11])
        self.assertEqual(due_blocks(committed, image), [0, 3, 5, 6, 8, 10])
        self.assertEqual((state(image), state(committed)), whole)
        # The stamp alone makes a block due, the cells alone do not.
        other = committed.twin()
        other.stamps[12] += 1
        other.cells[10][1] += 64
        other.stamps[11] += 1
        self.assertEqual(due_blocks(other, committed), [12])
        self.assertFalse(same_logged(other, committed))

    def test_revoked_blocks(self):
        image, committed = images()
        self.assertEqual(revoked_blocks(image, committed), [])
        self.assertEqual(revoked_blocks(committed, image), [11])
        gone, _ = do_deed(committed, ("unlink", "t"))
        self.assertEqual(revoked_blocks(gone, committed), [12])
        again, _ = do_deed(gone, ("sign", "t", 0, "f"), wish=12)
        self.assertEqual((revoked_blocks(again, committed), again.kind(12)), ([12], 1))
        changed, _ = do_deed(committed, ("resign", "t", "g"))
        self.assertEqual(revoked_blocks(changed, committed), [])

    def test_new_plain_blocks(self):
        image, committed = images()
        self.assertEqual(new_plain_blocks(image, committed), [13])
        self.assertEqual(new_plain_blocks(committed, image), [11])
        written, _ = do_deed(committed, ("write", "f", 0, (9,)))
        self.assertEqual(new_plain_blocks(written, committed), [])
        again, _ = do_deeds(committed, ("cut", "f", 0), ("write", "f", 0, (9,)))
        self.assertEqual((new_plain_blocks(again, committed), place_block(again, 2, 0)), ([11], 11))

    def test_same_logged(self):
        image, committed = images()
        self.assertFalse(same_logged(image, committed))
        written, _ = do_deed(committed, ("write", "f", 0, (9,)))
        self.assertTrue(same_logged(written, committed) and same_logged(committed, written))
        longer, _ = do_deed(committed, ("write", "f", 0, (9, 9)))
        self.assertFalse(same_logged(longer, committed))
        # A block that only the second one holds logged counts, too.
        fewer = committed.twin()
        fewer.cells[3][4] = 0
        fewer.holdings[12] = fewer.stamps[12] = 0
        self.assertFalse(same_logged(fewer, committed) or same_logged(committed, fewer))
        opened, _ = do_deed(committed, ("open", "f"))
        self.assertTrue(same_logged(opened, committed))

    def test_present_number(self):
        image, committed = images()
        self.assertEqual(present_number(5, committed, committed, None), 5)
        self.assertEqual(present_number(5, image, committed, None), 6)
        self.assertEqual(present_number(5, image, committed, image), 6)
        self.assertEqual(present_number(5, image, committed, committed), 7)
        self.assertEqual(present_number(5, committed, committed, committed), 6)
        self.assertEqual(present_number(5, committed, committed, image), 7)

    def test_lists_are_new(self):
        image, committed = images()
        due_blocks(image, committed).clear()
        self.assertEqual(len(due_blocks(image, committed)), 7)


def lot(number, *blocks, revokes=(), identity=(1, 1)):
    made = Lot(number, None)
    for k, x in enumerate(blocks):
        made.keep_copy(x, 10 * number + k, k + 1, identity)
    made.keep_mark(10 * number + 9, 9, revokes)
    return made


class WindowTest(unittest.TestCase):
    def test_an_empty_window(self):
        self.assertEqual([live_lot([], 12, lapse=lapse) for lapse in (True, False)], [0, 0])

    def test_several_copies_of_a_block(self):
        window = [lot(3, 12, 13), lot(4, 13), lot(5, 12), lot(6)]
        for lapse in (True, False):
            self.assertEqual([live_lot(window, x, lapse=lapse) for x in (12, 13, 14)], [5, 4, 0])

    def test_a_copy_struck_by_a_later_lot(self):
        window = [lot(3, 12), lot(4, revokes=[12])]
        self.assertEqual([live_lot(window, 12, lapse=lapse) for lapse in (True, False)], [0, 0])
        window.append(lot(5, 12))
        self.assertEqual([live_lot(window, 12, lapse=lapse) for lapse in (True, False)], [5, 5])
        # A revoke strikes no copy that comes later.
        self.assertEqual([live_lot(window[1:], 12, lapse=lapse) for lapse in (True, False)], [5, 5])

    def test_a_copy_struck_by_its_own_lot(self):
        window = [lot(3, 12, 13, revokes=[12])]
        self.assertEqual([live_lot(window, 12, lapse=lapse) for lapse in (True, False)], [3, 0])
        self.assertEqual([live_lot(window, 13, lapse=lapse) for lapse in (True, False)], [3, 3])
        window = [lot(2, 12), lot(3, 12, revokes=[12])]
        self.assertEqual([live_lot(window, 12, lapse=lapse) for lapse in (True, False)], [3, 0])

    def test_barred_blocks(self):
        image, committed = images()
        window = [lot(1, 12, 20), lot(2, 21, 5, revokes=[21])]

        def barred(text, closing=None, lots=window):
            return barred_blocks(Book.read(text), committed, closing, lots)
        self.assertEqual(barred("none"), [])
        self.assertEqual(barred("reuse"), [10, 11, 12])
        self.assertEqual(barred("reuse", image), [10, 11, 12, 13])
        self.assertEqual(barred("shelve"), [12, 20])
        self.assertEqual(barred("lapse shelve"), [12, 20, 21])
        self.assertEqual(barred("shelve", image, []), [])
        self.assertEqual(barred("reuse lapse shelve", image), [10, 11, 12, 13, 20, 21])
        self.assertEqual(barred("copies mark words late revoke lapse frozen wait room told", image), [])

    def test_fixed_blocks_are_not_in_the_list(self):
        window = [lot(1, 0, 5, 9)]
        self.assertEqual(barred_blocks(Book.full(), fresh(), fresh(), window), [])


class HomesTest(unittest.TestCase):
    def test_unsent_blocks(self):
        image, committed = images()
        ids = [image.identity(x) for x in range(24)]
        self.assertEqual(unsent_blocks(image, committed, ids, []), [])
        self.assertEqual(unsent_blocks(image, committed, ids, [13, 11]), [13])
        self.assertEqual(unsent_blocks(image, committed, ids, (13,)), [13])
        ids[13] = (ids[13][0], 99)
        self.assertEqual(unsent_blocks(image, committed, ids, []), [])
        ids[13] = (1, ids[13][1])
        ids[11] = (0, 0)
        self.assertEqual(unsent_blocks(image, committed, ids, []), [13])
        self.assertEqual(unsent_blocks(image, image, ids, [13]), [])

    def test_several_unsent_blocks(self):
        committed = fresh()
        image = done(("file", "f", 0), ("write", "f", 0, (1,) * 16), ("write", "f", 72, (1,)))
        self.assertEqual(unsent_blocks(image, committed, [(0, 0)] * 24, []), [11, 12, 14])

    def test_may_send_words(self):
        image, committed = images()
        self.assertTrue(may_send_words(11, 3, committed, None))
        self.assertFalse(may_send_words(11, 4, committed, None))
        self.assertFalse(may_send_words(11, 3, committed, image))
        self.assertFalse(may_send_words(11, image.holdings[11], committed, image))
        self.assertTrue(may_send_words(11, image.holdings[11], fresh(), image))
        self.assertTrue(may_send_words(20, 9, committed, image))
        self.assertTrue(may_send_words(13, image.holdings[13], committed, image))
        self.assertFalse(may_send_words(13, 1, committed, image))

    def test_may_leave(self):
        committed = images()[1]
        ids = [committed.identity(x) for x in range(24)]
        right = committed.identity(12)
        self.assertTrue(may_leave([lot(1)], committed, ids, []))
        self.assertTrue(may_leave([lot(1, 12, identity=right)], committed, ids, []))
        self.assertTrue(may_leave([lot(1, 12, identity=right)], committed, ids, [11, 10]))
        self.assertFalse(may_leave([lot(1, 12, identity=right)], committed, ids, [12]))
        for wrong in ((0, 0), (right[0], right[1] + 1), (right[0] + 1, right[1])):
            ids[12] = wrong
            self.assertFalse(may_leave([lot(1, 12, identity=right)], committed, ids, []))
        # The committed stamp may be another one.
        ids[12] = right
        self.assertFalse(may_leave([lot(1, 12, identity=(right[0], right[1] + 1))], committed, ids, []))

    def test_lots_that_may_leave_all_the_same(self):
        committed = images()[1]
        ids = [(0, 0)] * 24
        right = committed.identity(12)
        old = lot(1, 12, identity=right)
        self.assertFalse(may_leave([old], committed, ids, []))
        self.assertTrue(may_leave([old, lot(2), lot(3, 12)], committed, ids, [12]))
        # Another block in a later lot does not help, nor does a revoke.
        self.assertFalse(may_leave([old, lot(2, 11, revokes=[12])], committed, ids, []))
        self.assertTrue(may_leave([lot(1, 12, identity=(right[0] + 1, right[1]))], committed, ids, [12]))
        self.assertTrue(may_leave([lot(1, 12, identity=(0, 0))], committed, ids, [12]))
        # A free block has the holding 0, too, but 0 does not count.
        self.assertTrue(may_leave([lot(1, 20, identity=(0, 0))], committed, ids, [20]))
        # Only the oldest lot is asked.
        self.assertTrue(may_leave([lot(1), old], committed, ids, []))
        two = Lot(1, None)
        two.keep_copy(20, 1, 1, (0, 0))
        two.keep_copy(12, 2, 2, right)
        self.assertFalse(may_leave([two], committed, ids, []))

    def test_may_tell(self):
        image, committed = images()
        ids = [image.identity(x) for x in range(24)]
        self.assertTrue(may_tell(image, image, ids, [11, 10]))
        self.assertTrue(may_tell(fresh(), fresh(), [(0, 0)] * 24, []))
        self.assertFalse(may_tell(image, committed, ids, []))
        self.assertFalse(may_tell(image, image, ids, [13]))
        ids[13] = (ids[13][0], ids[13][1] - 1)
        self.assertFalse(may_tell(image, image, ids, []))

    def test_may_tell_asks_for_the_holding(self):
        image = images()[0]
        ids = [image.identity(x) for x in range(24)]
        other = image.twin()
        other.holdings[13] -= 1
        self.assertFalse(may_tell(image, other, ids, []))
        other = image.twin()
        other.stamps[13] += 1
        self.assertTrue(may_tell(image, other, ids, []))
        # A block that the committed image has free is not held.
        other.cells[3][5] = 0
        self.assertEqual((other.kind(13), other.holdings[13]), (0, image.holdings[13]))
        self.assertFalse(may_tell(image, other, ids, []))
        # Blocks that only the committed image holds plain do not count.
        extra = image.twin()
        extra.cells[4][4] = 2
        extra.holdings[20] = extra.stamps[20] = 5
        self.assertEqual(extra.kind(20), 2)
        self.assertTrue(may_tell(image, extra, ids, []))


if __name__ == "__main__":
    unittest.main()
