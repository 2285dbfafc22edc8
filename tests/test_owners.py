"""Points 53 and 54: used blocks, limits, and giving nodes to owners."""

import unittest

from helpers import check_sound, done, fresh, refused, state, used

from lotsandties.errors import OverQuota
from lotsandties.nodes import make_node, node_cell
from lotsandties.owners import change_owner, counted_blocks, limit_of, put_limit, used_blocks


def with_file():
    """The root of owner 0 holds one block, the file f of owner 1 holds four."""
    return done(("file", "f", 1), ("write", "f", 0, (1,)), ("write", "f", 15, (2, 3)))


class UsedTest(unittest.TestCase):
    def test_sums(self):
        image = with_file()
        self.assertEqual([used_blocks(image, owner) for owner in range(4)], [1, 4, 0, 0])
        image.cells[0][:4] = [5, 6, 7, 8]
        self.assertEqual([used_blocks(image, owner) for owner in range(4)], [5, 6, 7, 8])

    def test_counted_blocks(self):
        image = with_file()
        whole = state(image)
        self.assertEqual([counted_blocks(image, owner) for owner in range(4)], [1, 4, 0, 0])
        self.assertEqual(state(image), whole)
        # Blocks are counted by the nodes and not by the sums, and files without names count.
        image.cells[0][:4] = [9, 9, 9, 9]
        make_node(image, 2, 2)
        self.assertEqual([counted_blocks(image, owner) for owner in range(4)], [1, 4, 0, 0])
        image = done(("file", "f", 3), ("write", "f", 0, (1,)), ("open", "f"), ("unlink", "f"))
        self.assertEqual([counted_blocks(image, owner) for owner in range(4)], [0, 0, 0, 1])
        self.assertEqual(counted_blocks(fresh(), 0), 0)

    def test_limits(self):
        image = with_file()
        self.assertEqual([limit_of(image, owner) for owner in range(4)], [0, 0, 0, 0])
        before = image.twin()
        self.assertIsNone(put_limit(image, 1, 2))
        put_limit(image, 3, 64)
        self.assertEqual([limit_of(image, owner) for owner in range(4)], [0, 2, 0, 64])
        before.cells[0][5] = 2
        before.cells[0][7] = 64
        self.assertEqual(state(image), state(before))
        put_limit(image, 1, 0)
        self.assertEqual(limit_of(image, 1), 0)


class ChangeOwnerTest(unittest.TestCase):
    def test_change(self):
        image = with_file()
        self.assertIsNone(change_owner(image, 2, 3))
        self.assertEqual((used(image), node_cell(image, 2, 3)), ([1, 0, 0, 4], 3))
        change_owner(image, 1, 3)
        self.assertEqual((used(image), node_cell(image, 1, 3)), ([0, 0, 0, 5], 3))
        check_sound(self, image)

    def test_only_the_sums_and_the_node_change(self):
        image = with_file()
        before = image.twin()
        change_owner(image, 2, 2)
        before.cells[0][:3] = [1, 0, 4]
        before.cells[before.plan.node_block(2)][3] = 2
        self.assertEqual(state(image), state(before))

    def test_limits(self):
        image = with_file()
        for most in (1, 3):
            put_limit(image, 2, most)
            refused(self, OverQuota, change_owner, image, 2, 2)
        put_limit(image, 2, 4)
        change_owner(image, 2, 2)
        self.assertEqual(used(image), [1, 0, 4, 0])
        # The limit of the old owner does not count, and nobody counts who stays.
        put_limit(image, 2, 1)
        change_owner(image, 2, 2)
        change_owner(image, 2, 3)
        self.assertEqual(used(image), [1, 0, 0, 4])
        put_limit(image, 3, 4)
        refused(self, OverQuota, change_owner, image, 1, 3)
        put_limit(image, 3, 5)
        change_owner(image, 1, 3)

    def test_a_node_without_blocks(self):
        image = done(("file", "f", 1), ("file", "g", 2), ("write", "g", 0, (1,) * 16))
        self.assertEqual(used(image), [1, 0, 2, 0])
        put_limit(image, 2, 1)
        refused(self, OverQuota, change_owner, image, 2, 2)
        put_limit(image, 2, 2)
        change_owner(image, 2, 2)
        self.assertEqual((used(image), node_cell(image, 2, 3)), ([1, 0, 2, 0], 2))


if __name__ == "__main__":
    unittest.main()
