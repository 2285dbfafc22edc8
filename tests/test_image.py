"""Points 7, 8 and 15 to 20: images."""

import random
import unittest

from helpers import check_blocks, fresh, limit, small_plan, state, used

from lotsandties.errors import BlocksFull, OverQuota
from lotsandties.image import Image
from lotsandties.plan import Plan

ROOT_CELLS = [2, 1, 0, 0, 0, 0, 0, 1]


class FreshTest(unittest.TestCase):
    def test_an_image_of_nothing(self):
        plan = small_plan()
        image = Image(plan)
        self.assertIs(image.plan, plan)
        self.assertEqual(image.cells, [[0] * 8 for _ in range(24)])
        self.assertEqual((image.holdings, image.stamps), ([0] * 24, [0] * 24))
        self.assertEqual((image.handles, image.serial, image.wish, image.barred), ({}, 0, 0, ()))

    def test_a_fresh_image(self):
        for plan in (small_plan(), Plan(8, nodes=2, slots=9), Plan(64, nodes=16, slots=200)):
            image = Image.fresh(plan)
            cells = [[0] * 8 for _ in range(plan.blocks)]
            for x in range(plan.first_data):
                cells[2 + x // 8][x % 8] = 1
            cells[plan.first_node] = ROOT_CELLS
            self.assertEqual(image.cells, cells)
            fixed = [1] * plan.first_data + [0] * (plan.blocks - plan.first_data)
            self.assertEqual((image.holdings, image.stamps), (fixed, fixed))
            self.assertEqual((image.handles, image.serial, image.wish, image.barred), ({}, 1, 0, ()))

    def test_rows_of_images_are_their_own(self):
        first, second = fresh(), fresh()
        first.cells[0][0] = 5
        first.cells[1][0] = 6
        self.assertEqual(second.cells[0][0], 0)
        self.assertEqual(first.cells[11], [0] * 8)
        self.assertEqual(Image(small_plan()).cells[0][0], 0)


class OfCellsTest(unittest.TestCase):
    def rows(self):
        rows = [list(row) for row in fresh().cells]
        rows[3][2] = 1
        rows[3][3] = 2
        rows[3][4] = 7
        for x in (10, 11, 12, 13):
            rows[x] = [x] * 8
        return rows

    def test_content(self):
        rows = self.rows()
        image = Image.of_cells(small_plan(), rows)
        expected = self.rows()
        expected[12] = expected[13] = [0] * 8
        self.assertEqual(image.cells, expected)
        held = [1] * 12 + [0] * 12
        self.assertEqual((image.holdings, image.stamps), (held, held))
        self.assertEqual((image.handles, image.serial, image.wish, image.barred), ({}, 1, 0, ()))
        self.assertEqual([image.kind(x) for x in (9, 10, 11, 12, 13)], [1, 1, 2, 0, 0])
        self.assertEqual(rows, self.rows())

    def test_rows_are_copied(self):
        rows = self.rows()
        image = Image.of_cells(small_plan(), rows)
        rows[10][0] = 99
        self.assertEqual(image.cells[10][0], 10)
        image.cells[11][0] = 98
        self.assertEqual(rows[11][0], 11)
        self.assertEqual(rows[12], [12] * 8)

    def test_rows_may_be_tuples(self):
        rows = [tuple(row) for row in self.rows()]
        image = Image.of_cells(small_plan(), rows)
        self.assertEqual(state(image), state(Image.of_cells(small_plan(), self.rows())))
        self.assertTrue(all(isinstance(row, list) for row in image.cells))

    def test_fixed_blocks_are_logged_whatever_the_map_says(self):
        rows = [[0] * 8 for _ in range(24)]
        rows[5] = [3] * 8
        image = Image.of_cells(small_plan(), rows)
        self.assertEqual([image.kind(x) for x in range(24)], [1] * 10 + [0] * 14)
        self.assertEqual(image.cells[5], [3] * 8)
        self.assertEqual(image.identity(5), (1, 1))


class DeedTest(unittest.TestCase):
    def test_begin(self):
        image = fresh()
        barred = [12, 11, 12]
        self.assertIsNone(image.begin(63, barred))
        self.assertEqual((image.serial, image.wish, image.barred), (2, 63, (12, 11, 12)))
        barred.append(10)
        self.assertEqual(image.barred, (12, 11, 12))
        image.begin(0, ())
        self.assertEqual((image.serial, image.wish, image.barred), (3, 0, ()))

    def test_settle(self):
        before = fresh()
        before.begin(0, ())
        kept = before.take(1, 0)
        gone = before.take(2, 0)
        image = before.twin()
        image.begin(0, ())
        taken = image.take(2, 1)
        image.give(gone, 0)
        image.cells[kept][3] = 9
        image.cells[1][0] = 2
        whole = state(before)
        self.assertIsNone(image.settle(before))
        self.assertEqual(image.identity(kept), (2, 3))
        self.assertEqual(image.identity(taken), (3, 3))
        self.assertEqual(image.identity(gone), (0, 0))
        changed = [x for x in range(24) if image.stamps[x] == 3]
        # The sums, the list, the map block of the data blocks and the two blocks themselves.
        self.assertEqual(changed, [0, 1, 3, kept, taken])
        self.assertEqual([image.holdings[x] for x in (0, 1, 2, 3)], [1, 1, 1, 1])
        self.assertEqual(state(before), whole)

    def test_settle_stamps_what_was_taken_again_with_equal_cells(self):
        before = fresh()
        before.begin(0, ())
        x = before.take(2, 0)
        image = before.twin()
        image.begin(0, ())
        image.give(x, 0)
        self.assertEqual(image.take(2, 0), x)
        image.settle(before)
        self.assertEqual(image.identity(x), (3, 3))
        self.assertEqual(image.identity(0), (1, 1))

    def test_settle_stamps_by_the_holdings_of_the_moment(self):
        before = fresh()
        before.take(1, 0)
        image = before.twin()
        image.begin(0, ())
        image.holdings[10] = 2
        image.settle(before)
        self.assertEqual(image.identity(10), (2, 2))

    def test_a_change_that_is_taken_back_is_none(self):
        before = fresh()
        image = before.twin()
        image.begin(0, ())
        image.cells[5][2] = 4
        image.cells[5][2] = 0
        image.settle(before)
        self.assertEqual(image.stamps, before.stamps)

    def test_twin(self):
        image = fresh()
        image.begin(7, [12, 11])
        image.take(1, 2)
        image.handles[2] = 3
        twin = image.twin()
        self.assertEqual(state(twin), state(image))
        whole = state(image)
        twin.cells[5][0] = 9
        twin.cells.append([])
        twin.holdings[0] = 9
        twin.stamps[0] = 9
        twin.handles[3] = 1
        twin.begin(1, ())
        self.assertEqual(state(image), whole)
        twin = image.twin()
        whole = state(twin)
        image.cells[5][0] = 9
        image.holdings[0] = image.stamps[0] = 9
        image.handles.clear()
        image.take(2, 0)
        self.assertEqual(state(twin), whole)


class TakeTest(unittest.TestCase):
    def test_the_example_of_the_document(self):
        image = fresh()
        self.assertEqual(image.free_blocks(), list(range(10, 24)))
        image.begin(12, [12])
        self.assertEqual(image.take(2, 0), 13)
        self.assertEqual(image.take(1, 0), 12)
        self.assertEqual((image.identity(12), image.identity(13)), ((2, 2), (2, 2)))
        self.assertEqual(image.cells[0][0], 2)
        self.assertEqual((image.kind(12), image.kind(13)), (1, 2))
        self.assertEqual((image.cells[3][4], image.cells[3][5]), (1, 2))

    def test_wishes(self):
        for wish, block in ((0, 10), (9, 10), (10, 10), (11, 11), (23, 23), (24, 10), (63, 10)):
            image = fresh()
            image.begin(wish, ())
            self.assertEqual(image.take(1, 0), block)
        image = fresh()
        image.begin(22, ())
        self.assertEqual([image.take(2, 0) for _ in range(4)], [22, 23, 10, 11])

    def test_barred_blocks(self):
        barred = list(range(10, 23))
        image = fresh()
        image.begin(0, barred)
        self.assertEqual(image.take(2, 3), 23)
        with self.assertRaises(BlocksFull):
            image.take(2, 3)
        self.assertEqual(image.take(1, 3), 10)
        image.begin(15, [15, 16, 23])
        self.assertEqual(image.take(2, 0), 17)
        self.assertEqual(image.take(1, 0), 15)
        image.begin(18, (18, 19, 20, 21, 22, 23))
        self.assertEqual(image.take(2, 0), 11)

    def test_limits(self):
        image = fresh()
        limit(image, 1, 2)
        self.assertEqual([image.take(1, 1), image.take(2, 1)], [10, 11])
        whole = state(image)
        for kind in (1, 2):
            with self.assertRaises(OverQuota):
                image.take(kind, 1)
        self.assertEqual(state(image), whole)
        self.assertEqual(image.take(1, 0), 12)
        self.assertEqual(used(image), [1, 2, 0, 0])
        limit(image, 0, 1)
        with self.assertRaises(OverQuota):
            image.take(1, 0)
        image.give(12, 0)
        self.assertEqual(image.take(2, 0), 12)
        limit(image, 1, 1)
        with self.assertRaises(OverQuota):
            image.take(2, 1)
        limit(image, 1, 0)
        self.assertEqual(image.take(2, 1), 13)

    def test_the_limit_comes_before_the_want_of_blocks(self):
        image = fresh()
        limit(image, 2, 1)
        image.take(1, 2)
        for _ in range(13):
            image.take(1, 0)
        whole = state(image)
        with self.assertRaises(OverQuota):
            image.take(1, 2)
        for kind in (1, 2):
            with self.assertRaises(BlocksFull):
                image.take(kind, 0)
        self.assertEqual(state(image), whole)
        self.assertEqual(image.free_blocks(), [])

    def test_give(self):
        image = fresh()
        image.begin(0, ())
        x = image.take(2, 3)
        image.cells[x][5] = 8
        self.assertIsNone(image.give(x, 3))
        self.assertEqual((image.cells[x], image.kind(x), image.identity(x)), ([0] * 8, 0, (0, 0)))
        self.assertEqual(image.cells[3][2], 0)
        self.assertEqual(used(image), [0, 0, 0, 0])
        before = fresh()
        self.assertEqual((image.cells, image.holdings, image.stamps), (before.cells, before.holdings, before.stamps))

    def test_taken_blocks_are_empty(self):
        image = fresh()
        image.cells[10] = [7] * 8
        self.assertEqual(image.take(1, 0), 10)
        self.assertEqual(image.cells[10], [0] * 8)

    def test_lists_that_a_caller_changed_are_used(self):
        image = fresh()
        image.cells[3][2] = 1
        image.holdings[10] = 4
        image.stamps[10] = 6
        self.assertEqual(image.identity(10), (4, 6))
        self.assertEqual(image.take(2, 0), 11)
        image.cells[3][3] = 5
        self.assertEqual(image.kind(11), 0)
        self.assertEqual(image.take(2, 0), 11)

    def test_returned_lists_are_new(self):
        image = fresh()
        image.free_blocks().clear()
        self.assertEqual(image.free_blocks(), list(range(10, 24)))

    def test_many_steps(self):
        chance = random.Random(1)
        for _ in range(30):
            image = fresh()
            model = {}
            for _ in range(60):
                wish = chance.randrange(64)
                barred = chance.sample(range(24), chance.randrange(8))
                image.begin(wish, barred)
                if model and chance.randrange(3) == 0:
                    x = chance.choice(sorted(model))
                    image.give(x, model.pop(x)[1])
                    continue
                kind, owner = chance.choice((1, 2)), chance.randrange(4)
                free = [x for x in range(10, 24) if x not in model and (kind == 1 or x not in barred)]
                if not free:
                    with self.assertRaises(BlocksFull):
                        image.take(kind, owner)
                    continue
                expected = min([x for x in free if x >= wish] or free)
                self.assertEqual(image.take(kind, owner), expected)
                model[expected] = (kind, owner, image.serial)
            for x in range(10, 24):
                kind, owner, serial = model.get(x, (0, 0, 0))
                self.assertEqual((image.kind(x), image.identity(x)), (kind, (serial, serial)))
            self.assertEqual(used(image), [len([1 for held in model.values() if held[1] == u]) for u in range(4)])


class SoundTest(unittest.TestCase):
    def test_a_fresh_image_keeps_the_rules(self):
        check_blocks(self, fresh())


if __name__ == "__main__":
    unittest.main()
