"""Points 43 and 48 to 52: making, linking, removing and moving names."""

import random
import unittest

from helpers import check_sound, done, fresh, limit, names_of, refused, small_plan, state, used, wide_plan

from lotsandties.errors import (
    BlocksFull,
    FolderFull,
    FolderNotEmpty,
    IntoItself,
    NameTaken,
    NodesFull,
    NoSuchName,
    NotAFile,
    NotAFolder,
    NotASign,
    OverQuota,
    Refused,
    RootFixed,
    TooManyLinks,
    TooManySigns,
)
from lotsandties.folders import find_child, folder_entries
from lotsandties.image import Image
from lotsandties.naming import link_name, make_name, remove_folder, rename_name, resign_name, unlink_name
from lotsandties.nodes import made_nodes, node_cell, put_node_cell, unmake_node
from lotsandties.places import place_block
from lotsandties.signs import sign_path
from lotsandties.walks import walk

EIGHT = "abcdefgh"


def links(image, n):
    return node_cell(image, n, 1)


def block_names(image, n):
    """The names of a folder, each with the block of its entry."""
    found = []
    for o in (0, 1):
        x = place_block(image, n, o)
        found.extend((code, x) for code in image.cells[x][::2] if x and code)
    return found


def full_root(plan=None):
    """The root has eight names, all of the file 2."""
    image = done(("file", "a", 0), plan=plan)
    for name in EIGHT[1:]:
        link_name(image, "a", name)
    return image


def fill(image, owner=3):
    while image.free_blocks():
        image.take(1, owner)


class MakeTest(unittest.TestCase):
    def test_each_kind(self):
        image = fresh()
        self.assertEqual(make_name(image, "f", 1, 2), 2)
        self.assertEqual(make_name(image, "d", 2, 1), 3)
        self.assertEqual(make_name(image, "s", 3, 3, text="d/x"), 4)
        self.assertEqual(image.cells[image.plan.node_block(2)], [1, 1, 0, 2, 0, 0, 0, 1])
        self.assertEqual(image.cells[image.plan.node_block(3)], [2, 1, 0, 1, 0, 0, 0, 1])
        self.assertEqual(image.cells[image.plan.node_block(4)], [3, 1, 2, 3, 11, 0, 0, 1])
        self.assertEqual(sign_path(image, 4), "d/x")
        self.assertEqual(folder_entries(image, 1), [("f", 2), ("d", 3), ("s", 4)])
        self.assertEqual(used(image), [1, 0, 0, 1])
        check_sound(self, image)

    def test_blocks_are_for_the_sign_and_for_the_folder(self):
        image = fresh()
        make_name(image, "d", 2, 1)
        make_name(image, "d/s", 3, 2, text="a")
        self.assertEqual(used(image), [1, 1, 1, 0])
        # The text comes before the entry.
        self.assertEqual((place_block(image, 3, 0), place_block(image, 2, 0)), (11, 12))

    def test_the_text_of_other_kinds_is_not_used(self):
        image = fresh()
        make_name(image, "f", 1, 0, text="a/b/c")
        make_name(image, "d", 2, 0, text="a")
        self.assertEqual([node_cell(image, n, 2) for n in (2, 3)], [0, 0])
        check_sound(self, image)

    def test_a_node_made_again(self):
        image = fresh()
        make_name(image, "d", 2, 0)
        remove_folder(image, "d")
        self.assertEqual(make_name(image, "f", 1, 0), 2)
        self.assertEqual(node_cell(image, 2, 7), 2)
        self.assertEqual(names_of(image, 1), [(6, 2, 2)])
        check_sound(self, image)

    def test_errors_of_the_path(self):
        image = done(("file", "f", 0), ("sign", "s", 0, "s"))
        for path, error in ((".", RootFixed), ("x/y", NoSuchName), ("f/y", NotAFolder), ("s/y", TooManySigns)):
            for kind in (1, 2, 3):
                refused(self, error, make_name, image, path, kind, 0, text="a")
        refused(self, NameTaken, make_name, image, "f", 2, 0)
        refused(self, NameTaken, make_name, image, "s", 3, 0, text="a")

    def test_a_full_folder(self):
        image = full_root()
        refused(self, NameTaken, make_name, image, "h", 1, 0)
        refused(self, FolderFull, make_name, image, "i", 1, 0)

    def test_all_nodes_made(self):
        image = done(("file", "a", 0), ("file", "b", 0), ("file", "c", 0), ("folder", "d", 0))
        refused(self, NodesFull, make_name, image, "e", 1, 0)
        refused(self, NameTaken, make_name, image, "a", 1, 0)
        fill(image)
        refused(self, NodesFull, make_name, image, "d/e", 3, 0, text="a")
        image = full_root()
        for name in "ijk":
            put_node_cell(image, 3 + "ijk".index(name), 0, 1)
        refused(self, FolderFull, make_name, image, "i", 1, 0)

    def test_blocks(self):
        image = fresh()
        fill(image)
        refused(self, BlocksFull, make_name, image, "f", 1, 0)
        refused(self, BlocksFull, make_name, image, "s", 3, 0, text="a")
        image.give(23, 3)
        # The text takes the last block, and none is left for the entry.
        refused(self, BlocksFull, make_name, image, "s", 3, 0, text="a")
        image.give(22, 3)
        self.assertEqual(make_name(image, "s", 3, 0, text="a"), 2)
        self.assertEqual(image.free_blocks(), [])

    def test_limits(self):
        image = fresh()
        limit(image, 0, 1)
        refused(self, OverQuota, make_name, image, "s", 3, 0, text="a")
        self.assertEqual(make_name(image, "f", 1, 0), 2)
        refused(self, OverQuota, make_name, image, "s", 3, 0, text="a")
        self.assertEqual(make_name(image, "s", 3, 1, text="a"), 3)
        check_sound(self, image)

    def test_the_limit_of_the_folder(self):
        image = done(("folder", "d", 1))
        image.cells[0][5] = 2
        image.take(1, 1)
        image.take(1, 1)
        refused(self, OverQuota, make_name, image, "d/s", 3, 2, text="a")
        refused(self, OverQuota, make_name, image, "d/f", 1, 2)


class ResignTest(unittest.TestCase):
    def test_resign(self):
        image = done(("sign", "s", 1, "a/b/c"), ("sign", "t", 0, "s"))
        self.assertIsNone(resign_name(image, "s", "z"))
        self.assertEqual((sign_path(image, 2), sign_path(image, 3)), ("z", "s"))
        self.assertEqual(image.cells[place_block(image, 2, 0)], [26, 0, 0, 0, 0, 0, 0, 0])
        resign_name(image, "t", "a/b/c/d/e/f/g/h")
        self.assertEqual(sign_path(image, 3), "a/b/c/d/e/f/g/h")
        check_sound(self, image)

    def test_errors(self):
        image = done(("file", "f", 0), ("folder", "d", 0), ("sign", "s", 0, "s"))
        for path, error in ((".", NotASign), ("f", NotASign), ("d", NotASign), ("x", NoSuchName),
                            ("f/x", NotAFolder), ("s/x", TooManySigns)):
            refused(self, error, resign_name, image, path, "a")
        resign_name(image, "s", "d")
        self.assertEqual(sign_path(image, 4), "d")


class LinkTest(unittest.TestCase):
    def test_link(self):
        image = done(("file", "f", 0), ("folder", "d", 2), ("sign", "s", 0, "f"))
        self.assertIsNone(link_name(image, "f", "d/g"))
        link_name(image, "s", "t")
        self.assertEqual([find_child(image, 1, "t"), find_child(image, 3, "g")], [4, 2])
        self.assertEqual([links(image, n) for n in (2, 3, 4)], [2, 1, 2])
        self.assertEqual(used(image), [2, 0, 1, 0])
        check_sound(self, image)

    def test_order_of_the_errors(self):
        image = done(("file", "f", 0), ("folder", "d", 0), ("sign", "s", 0, "d"))
        for path, new, error in (("x", ".", NoSuchName), ("f/x", "f", NotAFolder), (".", ".", NotAFile),
                                 ("d", "x/y", NotAFile), ("f", ".", RootFixed), ("f", "x/y", NoSuchName),
                                 ("f", "f/y", NotAFolder), ("f", "d", NameTaken), ("f", "f", NameTaken),
                                 ("s", "s", NameTaken)):
            refused(self, error, link_name, image, path, new)

    def test_60_links(self):
        plan = wide_plan()
        deeds = [("folder", name, 0) for name in EIGHT]
        image = done(*deeds, ("file", "a/a", 0), plan=plan)
        spots = [f"{folder}/{name}" for folder in EIGHT for name in EIGHT][1:]
        for spot in spots[:58]:
            link_name(image, "a/a", spot)
        self.assertEqual(links(image, 10), 59)
        link_name(image, "a/a", spots[58])
        self.assertEqual(links(image, 10), 60)
        check_sound(self, image)
        refused(self, TooManyLinks, link_name, image, "a/a", spots[59])
        refused(self, NameTaken, link_name, image, "a/a", "a/b")
        # The folder is full, but the links come first.
        refused(self, TooManyLinks, link_name, image, "a/a", "a/x")
        self.assertEqual(unlink_name(image, spots[58]), 0)
        refused(self, FolderFull, link_name, image, "a/a", "a/x")
        link_name(image, "a/a", spots[59])
        self.assertEqual(links(image, 10), 60)

    def test_a_full_folder(self):
        image = full_root()
        refused(self, NameTaken, link_name, image, "a", "h")
        refused(self, FolderFull, link_name, image, "a", "i")

    def test_blocks_and_limits(self):
        image = done(("file", "f", 2), ("folder", "d", 1))
        fill(image)
        refused(self, BlocksFull, link_name, image, "f", "d/g")
        image.give(23, 3)
        limit(image, 1, 1)
        image.cells[0][1] = 1
        refused(self, OverQuota, link_name, image, "f", "d/g")


class UnlinkTest(unittest.TestCase):
    def test_unlink(self):
        image = done(("file", "f", 0), ("link", "f", "g"), ("write", "f", 0, (7,)))
        node = list(image.cells[image.plan.node_block(2)])
        self.assertEqual(unlink_name(image, "f"), 0)
        self.assertEqual((links(image, 2), find_child(image, 1, "f")), (1, 0))
        self.assertEqual(unlink_name(image, "g"), 2)
        node[1] = 0
        self.assertEqual(image.cells[image.plan.node_block(2)], node)
        self.assertEqual(image.cells[node[4]][0], 7)
        self.assertEqual(made_nodes(image), [1, 2])
        self.assertEqual(used(image), [1, 0, 0, 0])

    def test_a_sign_is_not_followed(self):
        image = done(("file", "f", 0), ("sign", "s", 0, "f"))
        self.assertEqual(unlink_name(image, "s"), 3)
        self.assertEqual((made_nodes(image), sign_path(image, 3)), ([1, 2, 3], "f"))

    def test_errors(self):
        image = done(("file", "f", 0), ("folder", "d", 0))
        for path, error in ((".", RootFixed), ("x/y", NoSuchName), ("f/y", NotAFolder), ("x", NoSuchName),
                            ("d/x", NoSuchName), ("d", NotAFile)):
            refused(self, error, unlink_name, image, path)


class RemoveFolderTest(unittest.TestCase):
    def test_remove(self):
        image = done(("folder", "d", 1), ("folder", "d/e", 2))
        self.assertIsNone(remove_folder(image, "d/e"))
        self.assertEqual(made_nodes(image), [1, 2])
        self.assertEqual(image.cells[image.plan.node_block(3)], [0, 0, 0, 0, 0, 0, 0, 1])
        remove_folder(image, "d")
        self.assertEqual((made_nodes(image), folder_entries(image, 1)), ([1], []))
        self.assertEqual(image.free_blocks(), list(range(10, 24)))
        check_sound(self, image)

    def test_errors(self):
        image = done(("file", "f", 0), ("folder", "d", 0), ("folder", "d/e", 0), ("sign", "s", 0, "d/e"))
        for path, error in ((".", RootFixed), ("x/y", NoSuchName), ("f/y", NotAFolder), ("x", NoSuchName),
                            ("f", NotAFolder), ("s", NotAFolder), ("d", FolderNotEmpty)):
            refused(self, error, remove_folder, image, path)


class RenameTest(unittest.TestCase):
    def test_in_one_folder(self):
        image = done(("file", "f", 0), ("file", "g", 0))
        self.assertEqual(rename_name(image, "f", "h"), 0)
        # The old entry is dropped first, so its place is the first empty one.
        self.assertEqual(folder_entries(image, 1), [("h", 2), ("g", 3)])
        self.assertEqual((links(image, 2), node_cell(image, 1, 2)), (1, 2))
        check_sound(self, image)

    def test_to_another_folder(self):
        image = done(("file", "f", 0), ("folder", "d", 1), ("folder", "d/e", 2))
        rename_name(image, "d/e", "x")
        self.assertEqual((folder_entries(image, 1), folder_entries(image, 3)), ([("f", 2), ("d", 3), ("x", 4)], []))
        rename_name(image, "f", "d/f")
        self.assertEqual(folder_entries(image, 3), [("f", 2)])
        self.assertEqual(used(image), [1, 1, 0, 0])
        check_sound(self, image)

    def test_a_sign_is_moved_itself(self):
        image = done(("file", "f", 0), ("sign", "s", 0, "f"), ("folder", "d", 0), ("sign", "t", 0, "d"))
        rename_name(image, "s", "t/s")
        self.assertEqual((walk(image, "d/s", follow=False), find_child(image, 1, "f")), (3, 2))
        self.assertEqual(rename_name(image, "t", "f"), 2)
        check_links(self, image)

    def test_nothing_changes(self):
        image = done(("file", "f", 0), ("link", "f", "g"), ("folder", "d", 0), ("link", "f", "d/f"))
        whole = state(image)
        for path, new in (("f", "f"), ("f", "g"), ("g", "f"), ("d", "d"), ("d/f", "g"), ("g", "d/f")):
            self.assertEqual(rename_name(image, path, new), 0)
            self.assertEqual(state(image), whole)

    def test_over_a_name(self):
        image = done(("file", "f", 0), ("file", "g", 0), ("link", "g", "h"), ("sign", "s", 0, "x"))
        self.assertEqual(rename_name(image, "f", "g"), 0)
        self.assertEqual((find_child(image, 1, "g"), find_child(image, 1, "f"), links(image, 3)), (2, 0, 1))
        self.assertEqual(rename_name(image, "s", "h"), 3)
        self.assertEqual((links(image, 3), links(image, 4), made_nodes(image)), (0, 1, [1, 2, 3, 4]))
        self.assertEqual(names_of(image, 1), [(7, 2, 1), (8, 4, 1)])

    def test_over_a_name_in_another_folder(self):
        image = done(("file", "f", 0), ("folder", "d", 1), ("file", "d/g", 0))
        self.assertEqual(rename_name(image, "d/g", "f"), 2)
        self.assertEqual((find_child(image, 1, "f"), place_block(image, 3, 0)), (4, 0))
        self.assertEqual(used(image), [1, 0, 0, 0])

    def test_over_folders(self):
        image = done(("file", "f", 0), ("folder", "d", 0), ("folder", "e", 0), ("sign", "s", 0, "f"))
        for path, new in (("f", "d"), ("d", "f"), ("d", "e"), ("s", "d"), ("d", "s")):
            refused(self, NameTaken, rename_name, image, path, new)

    def test_into_itself(self):
        image = done(("folder", "d", 0), ("folder", "d/e", 0), ("file", "f", 0), ("sign", "s", 0, "d/e"))
        for new in ("d/x", "d/e/x", "s/x", "d/e", "d/e/y"):
            refused(self, IntoItself, rename_name, image, "d", new)
        refused(self, IntoItself, rename_name, image, "d/e", "d/e/x")
        self.assertEqual(rename_name(image, "d/e", "x"), 0)
        self.assertEqual(rename_name(image, "d", "x/d"), 0)
        check_sound(self, image)

    def test_a_folder_beside_itself(self):
        image = done(("folder", "d", 0), ("folder", "d/e", 0))
        rename_name(image, "d/e", "d/x")
        self.assertEqual(rename_name(image, "d", "dd"), 0)
        self.assertEqual(walk(image, "dd/x"), 3)
        check_sound(self, image)

    def test_order_of_the_errors(self):
        image = done(("file", "f", 0), ("folder", "d", 0), ("sign", "s", 0, "s"))
        for path, new, error in ((".", ".", RootFixed), ("x/y", ".", NoSuchName), ("f/x", ".", NotAFolder),
                                 ("x", ".", NoSuchName), ("x", "f/x", NoSuchName), ("f", ".", RootFixed),
                                 ("f", "x/y", NoSuchName), ("d", "f/y", NotAFolder), ("f", "s/y", TooManySigns),
                                 ("d", "d/d", IntoItself)):
            refused(self, error, rename_name, image, path, new)

    def test_within_a_full_folder(self):
        image = full_root()
        self.assertEqual(rename_name(image, "c", "x"), 0)
        self.assertEqual([name for name, _ in folder_entries(image, 1)], list("abxdefgh"))

    def test_into_a_full_folder(self):
        image = full_root(wide_plan())
        unlink_name(image, "h")
        make_name(image, "h", 2, 0)
        make_name(image, "h/x", 1, 0)
        refused(self, FolderFull, rename_name, image, "h/x", "y")
        # Over a name there is room.
        self.assertEqual(rename_name(image, "h/x", "a"), 0)
        check_sound(self, image)
        self.assertEqual(node_cell(image, 1, 2), 8)

    def test_the_block_of_the_old_entry_serves_the_new_one(self):
        image = done(("file", "f", 0), ("folder", "d", 0), ("file", "d/g", 0))
        rename_name(image, "f", "d/f")
        fill(image)
        self.assertEqual(block_names(image, 1), [(4, 10)])
        rename_name(image, "d", "e")
        self.assertEqual(block_names(image, 1), [(5, 10)])
        rename_name(image, "e/f", "f")
        self.assertEqual([name for name, _ in folder_entries(image, 1)], ["e", "f"])

    def test_blocks(self):
        image = done(("file", "f", 0), ("folder", "d", 0))
        fill(image)
        refused(self, BlocksFull, rename_name, image, "f", "d/f")
        # The root's only entry: its block is freed before a block is taken.
        image = done(("folder", "d", 0), ("file", "d/g", 0), ("folder", "e", 0))
        fill(image)
        self.assertEqual(rename_name(image, "d/g", "e/g"), 0)
        self.assertEqual((place_block(image, 2, 0), place_block(image, 4, 0)), (0, 11))
        check_links(self, image)

    def test_limits(self):
        image = done(("file", "f", 0), ("folder", "d", 1))
        limit(image, 1, 1)
        image.take(1, 1)
        refused(self, OverQuota, rename_name, image, "f", "d/f")
        # A limit below what is used refuses even the block that was just given back.
        image = done(("file", "f", 0))
        image.take(1, 0)
        limit(image, 0, 1)
        refused(self, OverQuota, rename_name, image, "f", "g")
        limit(image, 0, 2)
        self.assertEqual(rename_name(image, "f", "g"), 0)


def check_links(test, image):
    counts = {n: 0 for n in made_nodes(image)}
    for n in counts:
        if node_cell(image, n, 0) == 2:
            for _, child in folder_entries(image, n):
                counts[child] += 1
    del counts[1]
    test.assertEqual({n: links(image, n) for n in counts}, counts)


class ManyStepsTest(unittest.TestCase):
    """Point 52: links are the numbers of entries; a refused step changes nothing."""

    def test_many_steps(self):
        paths = ["a", "b", "c", "a/a", "a/b", "b/a", "b/c", "a/a/a", "c/a/b", "."]
        for seed in range(60):
            chance = random.Random(seed)
            plan = small_plan() if seed % 2 else wide_plan()
            image = Image.fresh(plan)
            for _ in range(60):
                self.step(image, chance, paths)
                check_links(self, image)

    def step(self, image, chance, paths):
        path, new = chance.choice(paths), chance.choice(paths)
        step = chance.choice((make_name, make_name, make_name, link_name, unlink_name, remove_folder, rename_name))
        arguments = [path, new]
        if step == make_name:
            arguments = [path, chance.choice((1, 2, 2, 3)), chance.randrange(4)]
        elif step in (unlink_name, remove_folder):
            arguments = [path]
        whole = state(image)
        more = {"text": chance.choice(paths[:-1])} if step == make_name else {}
        try:
            gone = step(image, *arguments, **more)
        except Refused:
            self.assertEqual(state(image), whole)
            return
        if step in (unlink_name, rename_name) and gone:
            self.assertEqual(links(image, gone), 0)
            if node_cell(image, gone, 0) == 3:
                image.give(place_block(image, gone, 0), node_cell(image, gone, 3))
            unmake_node(image, gone)


if __name__ == "__main__":
    unittest.main()
