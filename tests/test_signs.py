"""Point 45: signs."""

import unittest

from helpers import check_blocks, fresh, limit, state, used

from lotsandties.errors import BlocksFull, OverQuota
from lotsandties.nodes import make_node, node_cell, put_node_cell
from lotsandties.places import place_block
from lotsandties.signs import put_sign_path, sign_path

LONG = "a/bc/def/ghij/k/l/m/zzzz"


def with_sign():
    image = fresh()
    make_node(image, 3, 2)
    return image


class SignTest(unittest.TestCase):
    def test_one_name(self):
        image = with_sign()
        self.assertIsNone(put_sign_path(image, 2, "ab"))
        self.assertEqual(place_block(image, 2, 0), 10)
        self.assertEqual(image.cells[10], [29, 0, 0, 0, 0, 0, 0, 0])
        self.assertEqual((node_cell(image, 2, 2), image.kind(10)), (1, 1))
        self.assertEqual(sign_path(image, 2), "ab")
        self.assertEqual(used(image), [0, 0, 1, 0])
        check_blocks(self, image)

    def test_eight_names(self):
        image = with_sign()
        put_sign_path(image, 2, LONG)
        self.assertEqual((sign_path(image, 2), node_cell(image, 2, 2)), (LONG, 8))
        self.assertEqual((image.cells[10][0], image.cells[10][7]), (1, 531440))

    def test_another_text(self):
        image = with_sign()
        put_sign_path(image, 2, LONG)
        whole = image.twin()
        put_sign_path(image, 2, "b/a")
        self.assertEqual((sign_path(image, 2), node_cell(image, 2, 2)), ("b/a", 2))
        self.assertEqual(image.cells[10], [2, 1, 0, 0, 0, 0, 0, 0])
        put_sign_path(image, 2, LONG)
        self.assertEqual(state(image), state(whole))
        check_blocks(self, image)

    def test_cells_behind_the_text(self):
        image = with_sign()
        put_sign_path(image, 2, "b/a")
        image.cells[10] = [2, 1, 5, 6, 7, 8, 27, 999999999]
        self.assertEqual(sign_path(image, 2), "b/a")
        put_node_cell(image, 2, 2, 1)
        self.assertEqual(sign_path(image, 2), "b")

    def test_refused(self):
        image = with_sign()
        limit(image, 2, 1)
        image.take(1, 2)
        whole = state(image)
        with self.assertRaises(OverQuota):
            put_sign_path(image, 2, "a/b")
        self.assertEqual(state(image), whole)
        limit(image, 2, 0)
        while image.free_blocks():
            image.take(1, 0)
        whole = state(image)
        with self.assertRaises(BlocksFull):
            put_sign_path(image, 2, "a/b")
        self.assertEqual(state(image), whole)

    def test_no_block_is_needed_for_another_text(self):
        image = with_sign()
        put_sign_path(image, 2, "a")
        limit(image, 2, 1)
        while image.free_blocks():
            image.take(1, 0)
        put_sign_path(image, 2, LONG)
        self.assertEqual(sign_path(image, 2), LONG)


if __name__ == "__main__":
    unittest.main()
