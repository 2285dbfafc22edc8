"""Points 36 to 38 and 41: sizes, pieces and the list."""

import unittest

from helpers import check_blocks, fresh, state

from lotsandties.errors import ListFull, TooLong, Unfinished
from lotsandties.image import Image
from lotsandties.nodes import make_node, node_cell, put_node_cell
from lotsandties.places import held_blocks, place_block, take_logged, take_place
from lotsandties.plan import Plan
from lotsandties.sizes import delist, enlist, free_piece, listed, set_size, unfinished


def with_file(size, places):
    """An image with the file 2, its blocks filled with nines."""
    image = fresh()
    make_node(image, 1, 1)
    put_node_cell(image, 2, 2, size)
    for o in places:
        image.cells[take_place(image, 2, o)] = [9] * 8
    return image


class UnfinishedTest(unittest.TestCase):
    def test_files(self):
        for size, places, answer in (
            (0, [], False), (80, [], False), (0, [0], True), (1, [0], False), (8, [0], False), (8, [1], True),
            (9, [1], False), (7, [0, 1], True), (72, [9], True), (73, [9], False), (80, range(10), False),
            (79, range(10), False), (16, [2], True), (17, [2], False), (16, [0, 1], False), (16, [0, 9], True),
        ):
            image = with_file(size, places)
            whole = state(image)
            self.assertIs(unfinished(image, 2), answer, (size, places))
            self.assertEqual(state(image), whole)

    def test_folders_and_signs_are_never_unfinished(self):
        for kind in (2, 3):
            image = fresh()
            make_node(image, kind, 0)
            take_logged(image, 2, 0)
            take_logged(image, 2, 1)
            put_node_cell(image, 2, 2, 5)
            self.assertIs(unfinished(image, 2), False)
            put_node_cell(image, 2, 2, 0)
            self.assertIs(unfinished(image, 2), False)

    def test_an_unmade_node(self):
        self.assertIs(unfinished(fresh(), 3), False)


class SetSizeTest(unittest.TestCase):
    def cells(self, image, o):
        return image.cells[place_block(image, 2, o)]

    def test_smaller(self):
        image = with_file(16, [0, 1])
        self.assertIsNone(set_size(image, 2, 3))
        self.assertEqual(node_cell(image, 2, 2), 3)
        self.assertEqual(self.cells(image, 0), [9, 9, 9, 0, 0, 0, 0, 0])
        self.assertEqual(self.cells(image, 1), [9] * 8)
        self.assertTrue(unfinished(image, 2))
        self.assertEqual(len(held_blocks(image, 2)), 2)

    def test_a_multiple_of_eight(self):
        image = with_file(16, [0, 1])
        set_size(image, 2, 8)
        self.assertEqual([self.cells(image, 0), self.cells(image, 1)], [[9] * 8, [9] * 8])
        set_size(image, 2, 0)
        self.assertEqual([self.cells(image, 0), self.cells(image, 1)], [[9] * 8, [9] * 8])

    def test_about_a_multiple_of_eight(self):
        for size, row in ((7, [9] * 7 + [0]), (8, [9] * 8), (9, [9] * 8), (1, [9] + [0] * 7)):
            image = with_file(10, [0, 1])
            set_size(image, 2, size)
            self.assertEqual(self.cells(image, 0), row)
        self.assertEqual(self.cells(image, 1), [9] * 8)
        image = with_file(10, [0, 1])
        set_size(image, 2, 9)
        self.assertEqual(self.cells(image, 1), [9] + [0] * 7)

    def test_greater(self):
        image = with_file(11, [0, 1])
        set_size(image, 2, 80)
        self.assertEqual(node_cell(image, 2, 2), 80)
        self.assertEqual(self.cells(image, 0), [9] * 8)
        self.assertEqual(self.cells(image, 1), [9, 9, 9, 0, 0, 0, 0, 0])
        self.assertEqual(len(held_blocks(image, 2)), 2)

    def test_greater_from_a_multiple_of_eight(self):
        image = with_file(8, [0])
        set_size(image, 2, 12)
        self.assertEqual(self.cells(image, 0), [9] * 8)

    def test_the_same_size(self):
        image = with_file(11, [0, 1])
        set_size(image, 2, 11)
        self.assertEqual(self.cells(image, 1), [9, 9, 9, 0, 0, 0, 0, 0])

    def test_a_hole_at_the_size(self):
        image = with_file(13, [0])
        whole = image.twin()
        set_size(image, 2, 20)
        whole.cells[6][2] = 20
        self.assertEqual(state(image), state(whole))

    def test_high_places(self):
        image = with_file(77, range(10))
        set_size(image, 2, 75)
        self.assertEqual(self.cells(image, 9), [9, 9, 9, 0, 0, 0, 0, 0])
        check_blocks(self, image)

    def test_too_long(self):
        image = with_file(11, [0, 1])
        whole = state(image)
        for size in (81, 999):
            with self.assertRaises(TooLong):
                set_size(image, 2, size)
        self.assertEqual(state(image), whole)

    def test_unfinished(self):
        image = with_file(5, [0, 1])
        whole = state(image)
        for size in (6, 80, 81, 999):
            with self.assertRaises(Unfinished):
                set_size(image, 2, size)
        self.assertEqual(state(image), whole)
        set_size(image, 2, 5)
        set_size(image, 2, 4)
        self.assertEqual(node_cell(image, 2, 2), 4)
        self.assertEqual(self.cells(image, 0), [9, 9, 9, 9, 0, 0, 0, 0])


class PieceTest(unittest.TestCase):
    def test_nothing_to_drop(self):
        for size, places in ((0, []), (80, range(10)), (9, [0, 1]), (8, [0])):
            image = with_file(size, places)
            whole = state(image)
            self.assertEqual(free_piece(image, 2), 0)
            self.assertEqual(state(image), whole)

    def test_the_highest_places_first(self):
        image = with_file(9, [0, 1, 2, 4, 7])
        blocks = [place_block(image, 2, o) for o in range(10)]
        self.assertEqual(free_piece(image, 2), 2)
        self.assertEqual([place_block(image, 2, o) for o in range(10)], blocks[:3] + [0] * 7)
        check_blocks(self, image)
        self.assertEqual(free_piece(image, 2), 1)
        self.assertEqual(image.cells[6][6], 0)
        self.assertEqual(held_blocks(image, 2), blocks[:2])
        self.assertEqual(free_piece(image, 2), 0)
        check_blocks(self, image)

    def test_the_block_of_places_does_not_count(self):
        image = with_file(0, [0, 3, 5])
        self.assertEqual(free_piece(image, 2), 2)
        self.assertEqual(held_blocks(image, 2), [place_block(image, 2, 0)])
        self.assertEqual(free_piece(image, 2), 1)
        self.assertEqual(image.free_blocks(), list(range(10, 24)))

    def test_one_and_two(self):
        image = with_file(0, [0, 1])
        self.assertEqual(free_piece(image, 2), 2)
        image = with_file(8, [0, 1])
        self.assertEqual(free_piece(image, 2), 1)
        self.assertEqual(held_blocks(image, 2), [10])
        image = with_file(72, [8, 9])
        self.assertEqual(free_piece(image, 2), 1)
        check_blocks(self, image)


class ListTest(unittest.TestCase):
    def image(self):
        return Image.fresh(Plan(64, nodes=16, slots=200))

    def test_enlist_and_delist(self):
        image = self.image()
        self.assertEqual(listed(image), [])
        for n in (5, 2, 16):
            self.assertIsNone(enlist(image, n))
        self.assertEqual((listed(image), image.cells[1]), ([5, 2, 16], [5, 2, 16, 0, 0, 0, 0, 0]))
        enlist(image, 2)
        self.assertEqual(listed(image), [5, 2, 16])
        self.assertIsNone(delist(image, 2))
        self.assertEqual(image.cells[1], [5, 16, 0, 0, 0, 0, 0, 0])
        delist(image, 2)
        delist(image, 7)
        self.assertEqual(listed(image), [5, 16])
        delist(image, 16)
        delist(image, 5)
        self.assertEqual(image.cells[1], [0] * 8)
        delist(image, 5)
        self.assertEqual(image.cells[1], [0] * 8)
        listed(image).append(3)
        self.assertEqual(listed(image), [])

    def test_eight_and_nine(self):
        image = self.image()
        for n in range(2, 10):
            enlist(image, n)
        self.assertEqual(listed(image), list(range(2, 10)))
        whole = state(image)
        with self.assertRaises(ListFull):
            enlist(image, 10)
        for n in (2, 9):
            enlist(image, n)
        self.assertEqual(state(image), whole)
        delist(image, 2)
        self.assertEqual(image.cells[1], [3, 4, 5, 6, 7, 8, 9, 0])
        enlist(image, 10)
        self.assertEqual(image.cells[1], [3, 4, 5, 6, 7, 8, 9, 10])
        delist(image, 10)
        delist(image, 6)
        self.assertEqual(image.cells[1], [3, 4, 5, 7, 8, 9, 0, 0])

    def test_nothing_else_changes(self):
        image = self.image()
        whole = state(image)
        enlist(image, 5)
        delist(image, 5)
        self.assertEqual(state(image), whole)


if __name__ == "__main__":
    unittest.main()
