"""Points 31 and 32: node blocks."""

import unittest

from helpers import fresh, state

from lotsandties.errors import NodesFull
from lotsandties.image import Image
from lotsandties.nodes import made_nodes, make_node, node_cell, put_node_cell, unmake_node
from lotsandties.plan import Plan


class CellTest(unittest.TestCase):
    def test_cells(self):
        image = fresh()
        self.assertEqual([node_cell(image, 1, field) for field in range(8)], [2, 1, 0, 0, 0, 0, 0, 1])
        self.assertIsNone(put_node_cell(image, 5, 7, 999999999))
        self.assertEqual(image.cells[9], [0, 0, 0, 0, 0, 0, 0, 999999999])
        self.assertEqual(node_cell(image, 5, 7), 999999999)
        put_node_cell(image, 2, 0, 3)
        self.assertEqual(image.cells[6], [3, 0, 0, 0, 0, 0, 0, 0])

    def test_only_the_cell_changes(self):
        image = fresh()
        whole = state(image)
        put_node_cell(image, 3, 2, 5)
        put_node_cell(image, 3, 2, 0)
        self.assertEqual(state(image), whole)

    def test_made_nodes(self):
        image = fresh()
        self.assertEqual(made_nodes(image), [1])
        put_node_cell(image, 5, 0, 3)
        put_node_cell(image, 3, 0, 1)
        put_node_cell(image, 2, 7, 4)
        self.assertEqual(made_nodes(image), [1, 3, 5])
        made_nodes(image).clear()
        self.assertEqual(made_nodes(image), [1, 3, 5])


class MakeTest(unittest.TestCase):
    def test_make(self):
        image = fresh()
        self.assertEqual([make_node(image, kind, owner) for kind, owner in ((1, 0), (2, 3), (3, 1))], [2, 3, 4])
        self.assertEqual(image.cells[6], [1, 0, 0, 0, 0, 0, 0, 1])
        self.assertEqual(image.cells[7], [2, 0, 0, 3, 0, 0, 0, 1])
        self.assertEqual(image.cells[8], [3, 0, 0, 1, 0, 0, 0, 1])
        self.assertEqual(image.free_blocks(), list(range(10, 24)))
        self.assertEqual((image.serial, image.holdings, image.stamps), (1, [1] * 10 + [0] * 14, [1] * 10 + [0] * 14))

    def test_the_lowest_node_again(self):
        image = fresh()
        for _ in range(3):
            make_node(image, 1, 2)
        put_node_cell(image, 3, 2, 70)
        put_node_cell(image, 3, 4, 12)
        self.assertIsNone(unmake_node(image, 3))
        self.assertEqual(image.cells[7], [0, 0, 0, 0, 0, 0, 0, 1])
        self.assertEqual(made_nodes(image), [1, 2, 4])
        self.assertEqual(make_node(image, 3, 1), 3)
        self.assertEqual(image.cells[7], [3, 0, 0, 1, 0, 0, 0, 2])
        self.assertEqual(make_node(image, 3, 1), 5)

    def test_leftovers_of_an_unmade_node(self):
        image = fresh()
        image.cells[6] = [0, 5, 5, 5, 5, 5, 5, 41]
        self.assertEqual(make_node(image, 2, 3), 2)
        self.assertEqual(image.cells[6], [2, 0, 0, 3, 0, 0, 0, 42])

    def test_all_nodes_made(self):
        for plan in (Plan(24, nodes=5, slots=30), Plan(8, nodes=2, slots=9), Plan(64, nodes=16, slots=65)):
            image = Image.fresh(plan)
            for n in range(2, plan.nodes + 1):
                self.assertEqual(make_node(image, 1, 0), n)
            whole = state(image)
            with self.assertRaises(NodesFull):
                make_node(image, 1, 0)
            self.assertEqual(state(image), whole)

    def test_unmaking_frees_no_blocks(self):
        image = fresh()
        make_node(image, 1, 0)
        x = image.take(2, 0)
        put_node_cell(image, 2, 4, x)
        unmake_node(image, 2)
        self.assertEqual((image.kind(x), image.cells[0][0]), (2, 1))


if __name__ == "__main__":
    unittest.main()
