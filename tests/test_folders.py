"""Points 9, 43 and 44: folders."""

import random
import unittest

from helpers import check_blocks, fresh, limit, state, used

from lotsandties.errors import BlocksFull, FolderFull, NameTaken, NoSuchName, OverQuota
from lotsandties.folders import add_entry, drop_entry, find_child, folder_entries, put_child
from lotsandties.nodes import make_node, node_cell, put_node_cell
from lotsandties.places import place_block
from lotsandties.texts import name_code

NAMES = ["a", "b", "c", "d", "e", "f", "g", "h"]


def with_nodes():
    """An image with the folder 2, the file 3 and the sign 4."""
    image = fresh()
    make_node(image, 2, 1)
    make_node(image, 1, 2)
    make_node(image, 3, 3)
    put_node_cell(image, 3, 7, 5)
    return image


def with_names(many):
    image = with_nodes()
    for name in NAMES[:many]:
        add_entry(image, 2, name, 3)
    return image


def refused(test, error, step, image, *arguments):
    whole = state(image)
    with test.assertRaises(error):
        step(image, *arguments)
    test.assertEqual(state(image), whole)


class AddTest(unittest.TestCase):
    def test_the_first_entry(self):
        image = with_nodes()
        self.assertEqual((folder_entries(image, 2), find_child(image, 2, "a")), ([], 0))
        self.assertIsNone(add_entry(image, 2, "ab", 3))
        self.assertEqual(place_block(image, 2, 0), 10)
        self.assertEqual(image.cells[10], [29, 5 * 64 + 3, 0, 0, 0, 0, 0, 0])
        self.assertEqual(image.kind(10), 1)
        self.assertEqual(node_cell(image, 2, 2), 1)
        self.assertEqual(used(image), [0, 1, 0, 0])
        self.assertEqual(folder_entries(image, 2), [("ab", 3)])
        check_blocks(self, image)

    def test_the_root(self):
        image = with_nodes()
        add_entry(image, 1, "zzzz", 2)
        self.assertEqual(image.cells[10], [531440, 64 + 2, 0, 0, 0, 0, 0, 0])
        self.assertEqual(folder_entries(image, 1), [("zzzz", 2)])
        self.assertEqual(used(image), [1, 0, 0, 0])

    def test_four_five_and_eight_names(self):
        image = with_names(4)
        self.assertEqual([place_block(image, 2, o) for o in (0, 1)], [10, 0])
        add_entry(image, 2, "e", 4)
        self.assertEqual([place_block(image, 2, o) for o in (0, 1)], [10, 11])
        self.assertEqual(image.cells[11], [5, 64 + 4, 0, 0, 0, 0, 0, 0])
        for name in NAMES[5:]:
            add_entry(image, 2, name, 3)
        self.assertEqual(folder_entries(image, 2), [(name, 4 if name == "e" else 3) for name in NAMES])
        self.assertEqual(node_cell(image, 2, 2), 8)
        check_blocks(self, image)

    def test_nine_names(self):
        image = with_names(8)
        refused(self, FolderFull, add_entry, image, 2, "i", 3)
        refused(self, NameTaken, add_entry, image, 2, "h", 3)
        refused(self, NameTaken, add_entry, image, 2, "a", 4)

    def test_a_taken_name(self):
        image = with_names(4)
        refused(self, NameTaken, add_entry, image, 2, "b", 4)
        add_entry(image, 2, "bb", 4)
        add_entry(image, 1, "b", 4)
        self.assertEqual((find_child(image, 1, "b"), find_child(image, 2, "b")), (4, 3))

    def test_the_first_empty_entry(self):
        image = with_names(8)
        for name in ("f", "c"):
            drop_entry(image, 2, name)
        add_entry(image, 2, "x", 4)
        self.assertEqual([name for name, _ in folder_entries(image, 2)], ["a", "b", "x", "d", "e", "g", "h"])
        add_entry(image, 2, "y", 4)
        self.assertEqual([name for name, _ in folder_entries(image, 2)], ["a", "b", "x", "d", "e", "y", "g", "h"])

    def test_a_hole_at_place_0(self):
        image = with_names(5)
        for name in NAMES[:4]:
            drop_entry(image, 2, name)
        self.assertEqual([place_block(image, 2, o) for o in (0, 1)], [0, 11])
        # The block of place 1 has empty entries, so place 0 stays a hole.
        for name in ("p", "q", "r"):
            add_entry(image, 2, name, 3)
        self.assertEqual(folder_entries(image, 2), [("e", 3), ("p", 3), ("q", 3), ("r", 3)])
        self.assertEqual(place_block(image, 2, 0), 0)
        add_entry(image, 2, "s", 4)
        self.assertEqual([place_block(image, 2, o) for o in (0, 1)], [10, 11])
        self.assertEqual(folder_entries(image, 2)[0], ("s", 4))
        check_blocks(self, image)

    def test_blocks_and_limits(self):
        image = with_names(4)
        limit(image, 1, 1)
        refused(self, OverQuota, add_entry, image, 2, "e", 3)
        refused(self, NameTaken, add_entry, image, 2, "a", 3)
        limit(image, 1, 0)
        while image.free_blocks():
            image.take(1, 3)
        refused(self, BlocksFull, add_entry, image, 2, "e", 3)
        drop_entry(image, 2, "a")
        add_entry(image, 2, "e", 3)
        refused(self, BlocksFull, add_entry, image, 1, "e", 3)

    def test_only_the_folder_changes(self):
        image = with_nodes()
        rows = [list(image.cells[x]) for x in (5, 7, 8)]
        add_entry(image, 2, "a", 3)
        put_child(image, 2, "a", 4)
        drop_entry(image, 2, "a")
        self.assertEqual([image.cells[x] for x in (5, 7, 8)], rows)


class FindTest(unittest.TestCase):
    def test_find_child(self):
        image = with_names(5)
        add_entry(image, 2, "zz", 4)
        whole = state(image)
        self.assertEqual([find_child(image, 2, name) for name in ("a", "e", "zz", "z", "aa", "f")], [3, 3, 4, 0, 0, 0])
        self.assertEqual(find_child(image, 1, "a"), 0)
        self.assertEqual(state(image), whole)

    def test_entries_are_new_tuples(self):
        image = with_names(2)
        entries = folder_entries(image, 2)
        self.assertTrue(all(isinstance(entry, tuple) for entry in entries))
        entries.clear()
        self.assertEqual(folder_entries(image, 2), [("a", 3), ("b", 3)])

    def test_the_tie_keeps_its_making(self):
        image = with_names(1)
        put_node_cell(image, 3, 7, 6)
        self.assertEqual(image.cells[10][1], 5 * 64 + 3)
        self.assertEqual(find_child(image, 2, "a"), 3)
        add_entry(image, 2, "b", 3)
        self.assertEqual(image.cells[10][3], 6 * 64 + 3)


class PutChildTest(unittest.TestCase):
    def test_put_child(self):
        image = with_names(6)
        expected = image.twin()
        self.assertIsNone(put_child(image, 2, "f", 4))
        expected.cells[11][3] = 64 + 4
        self.assertEqual(state(image), state(expected))
        put_node_cell(image, 3, 7, 9)
        put_child(image, 2, "a", 3)
        self.assertEqual(image.cells[10][:2], [1, 9 * 64 + 3])

    def test_no_such_name(self):
        image = with_names(6)
        refused(self, NoSuchName, put_child, image, 2, "g", 4)
        refused(self, NoSuchName, put_child, image, 1, "a", 4)


class DropTest(unittest.TestCase):
    def test_drop(self):
        image = with_names(6)
        self.assertIsNone(drop_entry(image, 2, "b"))
        self.assertEqual(image.cells[10][:6], [1, 5 * 64 + 3, 0, 0, 3, 5 * 64 + 3])
        self.assertEqual([name for name, _ in folder_entries(image, 2)], ["a", "c", "d", "e", "f"])
        self.assertEqual(node_cell(image, 2, 2), 5)
        check_blocks(self, image)

    def test_no_such_name(self):
        image = with_names(6)
        drop_entry(image, 2, "b")
        refused(self, NoSuchName, drop_entry, image, 2, "b")
        refused(self, NoSuchName, drop_entry, image, 1, "a")

    def test_either_order(self):
        for order, blocks in ((NAMES, [(0, 11), (0, 0)]), (NAMES[::-1], [(10, 0), (0, 0)])):
            image = with_names(8)
            for k in range(2):
                for name in order[4 * k:4 * k + 4]:
                    self.assertGreater(place_block(image, 2, 0) + place_block(image, 2, 1), 0)
                    drop_entry(image, 2, name)
                    check_blocks(self, image)
                self.assertEqual((place_block(image, 2, 0), place_block(image, 2, 1)), blocks[k])
            self.assertEqual((node_cell(image, 2, 2), used(image)), (0, [0, 0, 0, 0]))
            self.assertEqual(image.free_blocks(), list(range(10, 24)))

    def test_in_turns(self):
        image = with_names(8)
        for name in ("a", "e", "b", "f", "c", "g"):
            drop_entry(image, 2, name)
        self.assertEqual(folder_entries(image, 2), [("d", 3), ("h", 3)])
        self.assertEqual([place_block(image, 2, o) for o in (0, 1)], [10, 11])
        drop_entry(image, 2, "d")
        self.assertEqual([place_block(image, 2, o) for o in (0, 1)], [0, 11])


class ManyStepsTest(unittest.TestCase):
    """A folder against a list of eight entries."""

    def test_many_steps(self):
        for seed in range(40):
            chance = random.Random(seed)
            image = with_nodes()
            model = [None] * 8
            for _ in range(50):
                name, child = chance.choice("abcdefghij"), chance.choice((3, 4))
                names = [entry[0] for entry in model if entry]
                kind = chance.choice(("add", "add", "put", "drop"))
                if kind == "add":
                    self.add(image, model, names, name, child)
                elif name not in names:
                    refused(self, NoSuchName, *((put_child, image, 2, name, child) if kind == "put"
                                                else (drop_entry, image, 2, name)))
                elif kind == "put":
                    put_child(image, 2, name, child)
                    model = [(name, child) if entry and entry[0] == name else entry for entry in model]
                else:
                    drop_entry(image, 2, name)
                    model = [None if entry and entry[0] == name else entry for entry in model]
                self.assertEqual(folder_entries(image, 2), [entry for entry in model if entry])
                self.assertEqual(node_cell(image, 2, 2), len(folder_entries(image, 2)))
                check_blocks(self, image)

    def add(self, image, model, names, name, child):
        if name in names:
            refused(self, NameTaken, add_entry, image, 2, name, child)
            return
        if len(names) == 8:
            refused(self, FolderFull, add_entry, image, 2, name, child)
            return
        free = [j for j in range(8) if model[j] is None and any(model[j // 4 * 4:j // 4 * 4 + 4])]
        if not free:
            free = [4 if any(model[:4]) else 0]
        add_entry(image, 2, name, child)
        model[free[0]] = (name, child)
        x = place_block(image, 2, free[0] // 4)
        self.assertEqual(image.cells[x][2 * (free[0] % 4)], name_code(name))


if __name__ == "__main__":
    unittest.main()
