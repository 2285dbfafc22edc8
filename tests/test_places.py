"""Points 33 to 35: places and their blocks."""

import unittest

from helpers import check_blocks, fresh, limit, state, used

from lotsandties.errors import BlocksFull, OverQuota
from lotsandties.nodes import make_node
from lotsandties.places import drop_place, held_blocks, place_block, take_logged, take_place

FILE, FOLDER, SIGN = 1, 2, 3


def with_node(kind, owner):
    image = fresh()
    image.begin(0, ())
    make_node(image, kind, owner)
    return image


def places(image, n):
    return [place_block(image, n, o) for o in range(10)]


def fill(image, many):
    """Leave only so many free blocks: the others are used, and no node holds them."""
    while len(image.free_blocks()) > many:
        image.take(1, 3)


class TakeTest(unittest.TestCase):
    def test_places_of_the_node(self):
        image = with_node(FILE, 2)
        self.assertEqual(places(image, 2), [0] * 10)
        self.assertEqual(take_place(image, 2, 1), 10)
        self.assertEqual(take_place(image, 2, 0), 11)
        self.assertEqual(places(image, 2), [11, 10] + [0] * 8)
        self.assertEqual(image.cells[6], [1, 0, 0, 2, 11, 10, 0, 1])
        self.assertEqual([image.kind(10), image.kind(11), image.identity(10)], [2, 2, (2, 2)])
        self.assertEqual(used(image), [0, 0, 2, 0])
        check_blocks(self, image)

    def test_a_place_that_has_a_block(self):
        image = with_node(FILE, 0)
        for o in (0, 1, 2, 9):
            x = take_place(image, 2, o)
            whole = state(image)
            self.assertEqual(take_place(image, 2, o), x)
            self.assertEqual(state(image), whole)

    def test_the_block_of_places_comes_first(self):
        image = with_node(FILE, 1)
        self.assertEqual(take_place(image, 2, 9), 11)
        self.assertEqual(image.cells[6], [1, 0, 0, 1, 0, 0, 10, 1])
        self.assertEqual(image.cells[10], [0, 0, 0, 0, 0, 0, 0, 11])
        self.assertEqual((image.kind(10), image.kind(11)), (1, 2))
        self.assertEqual(take_place(image, 2, 2), 12)
        self.assertEqual(image.cells[10], [12, 0, 0, 0, 0, 0, 0, 11])
        self.assertEqual(places(image, 2), [0, 0, 12, 0, 0, 0, 0, 0, 0, 11])
        self.assertEqual(used(image), [0, 3, 0, 0])
        check_blocks(self, image)

    def test_all_places(self):
        image = with_node(FILE, 0)
        taken = [take_place(image, 2, o) for o in range(10)]
        self.assertEqual(places(image, 2), taken)
        self.assertEqual(held_blocks(image, 2), taken + [image.cells[6][6]])
        self.assertEqual(used(image)[0], 11)
        check_blocks(self, image)

    def test_barred_blocks_and_wishes(self):
        image = with_node(FILE, 0)
        image.begin(12, [12, 13])
        self.assertEqual(take_place(image, 2, 5), 14)
        self.assertEqual(image.cells[6][6], 12)

    def test_folders_and_signs(self):
        for kind in (FOLDER, SIGN):
            image = with_node(kind, 3)
            image.begin(0, list(range(10, 24)))
            self.assertEqual(take_logged(image, 2, 1), 10)
            self.assertEqual(take_logged(image, 2, 0), 11)
            self.assertEqual(image.cells[6], [kind, 0, 0, 3, 11, 10, 0, 1])
            self.assertEqual([image.kind(10), image.kind(11)], [1, 1])
            self.assertEqual(used(image), [0, 0, 0, 2])
            whole = state(image)
            self.assertEqual([take_logged(image, 2, 0), take_logged(image, 2, 1)], [11, 10])
            self.assertEqual(state(image), whole)
            self.assertEqual(places(image, 2), [11, 10] + [0] * 8)
            check_blocks(self, image)


class RefusedTest(unittest.TestCase):
    def refused(self, error, step, image, *arguments):
        whole = state(image)
        with self.assertRaises(error):
            step(image, *arguments)
        self.assertEqual(state(image), whole)

    def test_no_block(self):
        for o in (0, 1, 2, 9):
            image = with_node(FILE, 0)
            fill(image, 0)
            self.refused(BlocksFull, take_place, image, 2, o)
        image = with_node(FOLDER, 0)
        fill(image, 0)
        self.refused(BlocksFull, take_logged, image, 2, 0)

    def test_one_block_where_two_are_needed(self):
        image = with_node(FILE, 0)
        fill(image, 1)
        self.refused(BlocksFull, take_place, image, 2, 2)
        self.refused(BlocksFull, take_place, image, 2, 9)
        self.assertEqual(take_place(image, 2, 1), 23)
        image = with_node(FILE, 0)
        fill(image, 2)
        self.assertEqual(take_place(image, 2, 2), 23)

    def test_barred_blocks_where_two_are_needed(self):
        image = with_node(FILE, 0)
        image.begin(0, list(range(11, 24)))
        self.refused(BlocksFull, take_place, image, 2, 2)
        image.begin(11, list(range(11, 24)))
        self.assertEqual(take_place(image, 2, 2), 10)

    def test_limits(self):
        image = with_node(FILE, 1)
        limit(image, 1, 1)
        self.refused(OverQuota, take_place, image, 2, 2)
        self.assertEqual(take_place(image, 2, 0), 10)
        self.refused(OverQuota, take_place, image, 2, 1)
        self.assertEqual(take_place(image, 2, 0), 10)
        limit(image, 1, 3)
        self.assertEqual(take_place(image, 2, 2), 12)
        self.refused(OverQuota, take_place, image, 2, 3)
        image = with_node(SIGN, 1)
        limit(image, 1, 1)
        image.take(1, 1)
        self.refused(OverQuota, take_logged, image, 2, 0)

    def test_what_a_free_block_had_on_the_map_stays(self):
        image = with_node(FILE, 0)
        fill(image, 1)
        image.cells[4][7] = 9
        self.refused(BlocksFull, take_place, image, 2, 2)


class DropTest(unittest.TestCase):
    def test_holes(self):
        for kind in (FILE, FOLDER, SIGN):
            image = with_node(kind, 0)
            whole = state(image)
            for o in (0, 1):
                self.assertIsNone(drop_place(image, 2, o))
            self.assertEqual(state(image), whole)
        image = with_node(FILE, 0)
        take_place(image, 2, 5)
        whole = state(image)
        for o in (0, 1, 2, 9):
            drop_place(image, 2, o)
        self.assertEqual(state(image), whole)

    def test_places_of_the_node(self):
        image = with_node(FILE, 2)
        for o in (0, 1, 4):
            take_place(image, 2, o)
        self.assertIsNone(drop_place(image, 2, 0))
        self.assertEqual(image.cells[6], [1, 0, 0, 2, 0, 11, 12, 1])
        self.assertEqual((image.kind(10), image.identity(10)), (0, (0, 0)))
        drop_place(image, 2, 1)
        self.assertEqual(held_blocks(image, 2), [13, 12])
        self.assertEqual(used(image), [0, 0, 2, 0])
        check_blocks(self, image)

    def test_the_block_of_places_goes_with_the_last(self):
        for order in ((2, 5, 9), (9, 5, 2), (5, 9, 2)):
            image = with_node(FILE, 1)
            for o in (2, 5, 9):
                take_place(image, 2, o)
            block = image.cells[6][6]
            for o in order[:2]:
                drop_place(image, 2, o)
                self.assertEqual(image.cells[6][6], block)
                check_blocks(self, image)
            drop_place(image, 2, order[2])
            self.assertEqual(image.cells[6], [1, 0, 0, 1, 0, 0, 0, 1])
            self.assertEqual(image.free_blocks(), list(range(10, 24)))
            self.assertEqual(used(image), [0, 0, 0, 0])
            check_blocks(self, image)

    def test_folders(self):
        image = with_node(FOLDER, 3)
        take_logged(image, 2, 0)
        take_logged(image, 2, 1)
        drop_place(image, 2, 0)
        self.assertEqual(image.cells[6], [2, 0, 0, 3, 0, 11, 0, 1])
        self.assertEqual(used(image), [0, 0, 0, 1])
        drop_place(image, 2, 1)
        self.assertEqual(held_blocks(image, 2), [])


class HeldTest(unittest.TestCase):
    def test_order(self):
        image = with_node(FILE, 0)
        make_node(image, SIGN, 1)
        for o in (9, 1, 3):
            take_place(image, 2, o)
        sign = take_logged(image, 3, 0)
        self.assertEqual(places(image, 2), [0, 12, 0, 13, 0, 0, 0, 0, 0, 11])
        self.assertEqual(held_blocks(image, 2), [12, 13, 11, 10])
        self.assertEqual(held_blocks(image, 3, 2), [sign, 12, 13, 11, 10])
        self.assertEqual(held_blocks(image, 2, 3, 2), [12, 13, 11, 10, sign, 12, 13, 11, 10])
        self.assertEqual(held_blocks(image, 1, 4, 5), [])
        self.assertEqual(held_blocks(image), [])
        held_blocks(image, 2).clear()
        self.assertEqual(held_blocks(image, 2), [12, 13, 11, 10])


if __name__ == "__main__":
    unittest.main()
