"""Points 65 to 67: the plain reading."""

import unittest

from helpers import done, fresh, state, wide_plan

from lotsandties.acting import do_deed, do_deeds
from lotsandties.nodes import unmake_node
from lotsandties.reading import read_node_words, read_tree, rows_text, tree_text
from lotsandties.signs import put_sign_path


class ReadTreeTest(unittest.TestCase):
    def test_a_fresh_image(self):
        self.assertEqual(read_tree(fresh()), [(".", "folder", ".", 0, 1, 0)])
        self.assertEqual(tree_text(fresh()), ". folder 0 1 . 0")

    def test_each_kind(self):
        image = done(("file", "a", 1), ("write", "a", 0, (7, 0, 8)), ("link", "a", "b"), ("sign", "c", 2, "b/z"),
                     ("file", "d", 0), ("folder", "e", 3), ("link", "a", "e/x"))
        self.assertEqual(read_tree(image), [
            (".", "folder", ".", 0, 1, 5),
            ("a", "file", "a", 1, 3, (7, 0, 8)),
            ("b", "file", "a", 1, 3, (7, 0, 8)),
            ("c", "sign", "c", 2, 1, "b/z"),
            ("d", "file", "d", 0, 1, ()),
            ("e", "folder", "e", 3, 1, 1),
            ("e/x", "file", "a", 1, 3, (7, 0, 8)),
        ])

    def test_the_order_is_that_of_the_texts(self):
        image = done(("folder", "b", 0), ("file", "b/z", 0), ("file", "bb", 0), ("link", "bb", "a"), ("folder", "b/a", 0),
                     plan=wide_plan())
        rows = read_tree(image)
        self.assertEqual([row[0] for row in rows], [".", "a", "b", "b/a", "b/z", "bb"])
        self.assertEqual([row[2] for row in rows], [".", "a", "b", "b/a", "b/z", "a"])

    def test_a_sign_is_not_followed(self):
        image = done(("folder", "d", 0), ("file", "d/f", 0), ("sign", "s", 0, "d"), ("sign", "t", 0, "t"))
        self.assertEqual([row[0] for row in read_tree(image)], [".", "d", "d/f", "s", "t"])

    def test_holes_and_words(self):
        image = done(("file", "f", 0), ("write", "f", 18, (5,)), ("cut", "f", 21))
        self.assertEqual(read_tree(image)[1][5], (0,) * 18 + (5, 0, 0))
        self.assertEqual(read_node_words(image, 2), (0,) * 18 + (5, 0, 0))
        image, _ = do_deed(image, ("cut", "f", 18))
        self.assertEqual(read_node_words(image, 2), (0,) * 18)
        self.assertEqual(read_node_words(done(("file", "f", 0)), 2), ())

    def test_a_file_without_a_name(self):
        image = done(("file", "f", 0), ("write", "f", 0, (4,)), ("open", "f"), ("unlink", "f"))
        self.assertEqual(read_tree(image), [(".", "folder", ".", 0, 1, 0)])
        self.assertEqual(read_node_words(image, 2), (4,))

    def test_paths_of_more_than_eight_names(self):
        deeds = []
        for depth in range(1, 9):
            deeds.append(("folder", "/".join("a" * depth), 0))
        image = done(*deeds, ("file", "f", 0), ("sign", "s", 0, "a/a/a/a/a/a/a/a"), plan=wide_plan())
        image, answers = do_deeds(image, ("rename", "f", "s/f"), ("folder", "x", 0), ("rename", "a", "x/a"))
        rows = read_tree(image)
        self.assertEqual(rows[-1][0], "x/" + "a/" * 8 + "f")
        self.assertEqual([len(row[0].split("/")) for row in rows[3:]], list(range(2, 11)))

    def test_only_nodes_and_held_blocks_are_read(self):
        image = done(("file", "a", 1), ("write", "a", 0, (7, 8)), ("sign", "c", 2, "b/z"), ("folder", "e", 3))
        rows = read_tree(image)
        whole = state(image)
        other = image.twin()
        for x in (0, 1, 2, 3, 4, 20):
            other.cells[x] = [9] * 8
        other.holdings = [0] * 24
        self.assertEqual(read_tree(other), rows)
        self.assertEqual(read_node_words(other, 2), (7, 8))
        self.assertEqual(state(image), whole)

    def test_rows_are_new(self):
        image = done(("file", "a", 0))
        read_tree(image).clear()
        self.assertEqual(len(read_tree(image)), 2)
        self.assertTrue(all(isinstance(row, tuple) for row in read_tree(image)))

    def test_names_of_two_blocks_and_a_sign_of_eight_names(self):
        image = done(*[("file", name, 0) for name in "hgfedcb"], plan=wide_plan())
        image, _ = do_deed(image, ("sign", "a", 0, "a/b/c/d/e/f/g/zzzz"))
        self.assertEqual([row[0] for row in read_tree(image)], [".", "a", "b", "c", "d", "e", "f", "g", "h"])
        self.assertEqual(read_tree(image)[1][5], "a/b/c/d/e/f/g/zzzz")
        put_sign_path(image, 9, "b")
        self.assertEqual(read_tree(image)[1][5], "b")


class TextTest(unittest.TestCase):
    def test_the_examples_of_the_document(self):
        rows = [("a", "file", "a", 1, 2, (7, 0, 8)), ("c", "sign", "c", 2, 1, "b/z"), ("d", "file", "d", 0, 1, ())]
        self.assertEqual(rows_text(rows), "a file 1 2 a 7 0 8\nc sign 2 1 c b/z\nd file 0 1 d")
        self.assertEqual(rows_text([]), "")
        self.assertEqual(rows_text([("e/x", "folder", "e/x", 3, 1, 0)]), "e/x folder 3 1 e/x 0")

    def test_tree_text(self):
        image = done(("file", "a", 1), ("write", "a", 0, (7, 0, 8)), ("link", "a", "b"))
        self.assertEqual(tree_text(image), ". folder 0 1 . 2\na file 1 2 a 7 0 8\nb file 1 2 a 7 0 8")
        self.assertEqual(tree_text(image), rows_text(read_tree(image)))
        unmake_node(image, 4)
        self.assertEqual(len(tree_text(image).split("\n")), 3)


if __name__ == "__main__":
    unittest.main()
