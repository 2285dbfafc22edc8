"""Points 68 and 69: the plain tree, alone and side by side with an image."""

import random
import unittest

from helpers import small_plan, wide_plan
from making import random_deed

from lotsandties.acting import do_deed
from lotsandties.errors import (
    BadValue,
    BlocksFull,
    FolderFull,
    FolderNotEmpty,
    IntoItself,
    ListFull,
    NameTaken,
    NodesFull,
    NoSuchName,
    NotAFile,
    NotAFolder,
    NotASign,
    NotOnList,
    NotOpen,
    OverQuota,
    Refused,
    RootFixed,
    TooLong,
    TooManyLinks,
    TooManySigns,
    Unfinished,
)
from lotsandties.image import Image
from lotsandties.plaintree import PlainTree
from lotsandties.reading import read_tree, tree_text

ONLY_IMAGES = (NodesFull, BlocksFull, OverQuota, Unfinished, ListFull, NotOnList, NotOpen)


def tree(*deeds):
    plain = PlainTree()
    for deed in deeds:
        assert plain.do(deed) is None
    return plain


class PlainTest(unittest.TestCase):
    def refused(self, error, plain, *deeds):
        rows = plain.rows()
        for deed in deeds:
            with self.assertRaises(error) as caught:
                plain.do(deed)
            self.assertIs(type(caught.exception), error)
            self.assertEqual(plain.rows(), rows)

    def test_a_new_tree(self):
        self.assertEqual(PlainTree().rows(), [(".", "folder", ".", 0, 1, 0)])
        self.assertEqual(PlainTree().text(), ". folder 0 1 . 0")

    def test_names(self):
        plain = tree(("file", "b", 1), ("folder", "d", 2), ("sign", "s", 3, "d/x"), ("link", "b", "d/x"),
                     ("link", "s", "d/s"), ("rename", "b", "c"), ("resign", "d/s", "c"), ("own", "s", 2))
        self.assertEqual(plain.rows(), [
            (".", "folder", ".", 0, 1, 3),
            ("c", "file", "c", 2, 2, ()),
            ("d", "folder", "d", 2, 1, 2),
            ("d/s", "sign", "d/s", 3, 2, "c"),
            ("d/x", "file", "c", 2, 2, ()),
            ("s", "sign", "d/s", 3, 2, "c"),
        ])
        for deed in (("unlink", "c"), ("unlink", "s"), ("unlink", "d/s"), ("unlink", "d/x"), ("rmdir", "d")):
            plain.do(deed)
        self.assertEqual(plain.text(), ". folder 0 1 . 0")

    def test_words(self):
        plain = tree(("file", "f", 0), ("write", "f", 2, (1, 2, 3)))
        self.assertEqual(plain.rows()[1][5], (0, 0, 1, 2, 3))
        plain.do(("write", "f", 1, (7,)))
        self.assertEqual(plain.rows()[1][5], (0, 7, 1, 2, 3))
        plain.do(("cut", "f", 3))
        plain.do(("cut", "f", 4))
        self.assertEqual(plain.rows()[1][5], (0, 7, 1, 0))
        plain.do(("write", "f", 6, (9,)))
        self.assertEqual(plain.rows()[1][5], (0, 7, 1, 0, 0, 0, 9))
        plain.do(("write", "f", 79, (9,)))
        self.assertEqual((len(plain.rows()[1][5]), plain.rows()[1][5][-1]), (80, 9))
        self.refused(TooLong, plain, ("write", "f", 80, (1,)), ("write", "f", 70, (1,) * 11), ("cut", "f", 81))
        plain.do(("cut", "f", 0))
        self.assertEqual(plain.rows()[1][5], ())

    def test_deeds_that_change_nothing(self):
        plain = tree(("file", "f", 0), ("sign", "s", 0, "f"))
        rows = plain.rows()
        for deed in (("limit", 0, 1), ("shut", 2), ("shut", 16), ("piece", 2), ("open", "f"), ("open", "s"),
                     ("rename", "f", "f")):
            self.assertIsNone(plain.do(deed))
            self.assertEqual(plain.rows(), rows)

    def test_no_limits(self):
        plain = tree(("limit", 0, 1))
        for folder in "abcdefg":
            plain.do(("folder", folder, 0))
            for name in "abcdefgh":
                plain.do(("file", f"{folder}/{name}", 0))
                plain.do(("write", f"{folder}/{name}", 64, (1,) * 16))
                plain.do(("cut", f"{folder}/{name}", 1))
                plain.do(("write", f"{folder}/{name}", 79, (1,)))
        self.assertEqual(len(plain.rows()), 64)
        self.refused(FolderFull, plain, ("file", "a/x", 0), ("sign", "b/x", 0, "a"), ("link", "a/a", "b/x"),
                     ("rename", "c", "a/x"))
        self.refused(NameTaken, plain, ("link", "a/a", "b/a"), ("folder", "a/a", 0))

    def test_60_links(self):
        plain = tree(*[("folder", name, 0) for name in "abcdefgh"], ("file", "a/a", 0))
        spots = [f"{folder}/{name}" for folder in "abcdefgh" for name in "abcdefgh"][1:]
        for spot in spots[:59]:
            plain.do(("link", "a/a", spot))
        self.refused(TooManyLinks, plain, ("link", "a/a", spots[59]), ("link", "a/a", "a/x"))
        self.refused(NameTaken, plain, ("link", "a/a", "a/b"))
        plain.do(("unlink", spots[58]))
        self.refused(FolderFull, plain, ("link", "a/a", "a/x"))

    def test_eight_signs_and_nine(self):
        names = ["a", "b", "c", "d", "e", "f", "g", "x/h", "x/i"]
        for many in (8, 9):
            plain = tree(("folder", "x", 0), ("file", "x/j", 0))
            for name, text in zip(names[:many], names[1:many] + ["x/j"]):
                plain.do(("sign", name, 0, text))
            self.assertIsNone(plain.do(("open", names[many - 8])))
            self.assertIsNone(plain.do(("write", names[many - 8], 0, (many,))))
            self.assertEqual(plain.rows()[-1][5], (many,))
            if many == 9:
                self.refused(TooManySigns, plain, ("open", "a"), ("write", "a", 0, (1,)), ("own", "a", 1))
                plain.do(("resign", "a", "c"))
                plain.do(("own", "a", 3))

    def test_rename(self):
        plain = tree(("file", "f", 1), ("file", "g", 2), ("link", "g", "h"), ("folder", "d", 0), ("folder", "d/e", 0),
                     ("sign", "s", 0, "d/e"))
        self.refused(IntoItself, plain, ("rename", "d", "d/x"), ("rename", "d", "d/e"), ("rename", "d", "s/x"))
        self.refused(NameTaken, plain, ("rename", "d", "f"), ("rename", "f", "d"), ("rename", "d/e", "d"))
        rows = plain.rows()
        plain.do(("rename", "g", "h"))
        self.assertEqual(plain.rows(), rows)
        plain.do(("rename", "f", "g"))
        self.assertEqual([row[:5] for row in plain.rows()][-3:],
                         [("g", "file", "g", 1, 1), ("h", "file", "h", 2, 1), ("s", "sign", "s", 0, 1)])
        plain.do(("rename", "s", "h"))
        self.assertEqual([row[0] for row in plain.rows()], [".", "d", "d/e", "g", "h"])
        plain.do(("rename", "d/e", "x"))
        plain.do(("rename", "d", "x/d"))
        self.assertEqual([row[0] for row in plain.rows()], [".", "g", "h", "x", "x/d"])

    def test_errors(self):
        plain = tree(("file", "f", 0), ("folder", "d", 0), ("file", "d/g", 0), ("sign", "s", 0, "s"))
        self.refused(RootFixed, plain, ("file", ".", 0), ("rename", ".", "."), ("rename", "f", "."), ("rmdir", "."))
        self.refused(NoSuchName, plain, ("open", "x"), ("unlink", "d/x"), ("rename", "x", "."), ("link", "x", "."))
        self.refused(NotAFile, plain, ("open", "d"), ("cut", ".", 99), ("unlink", "d"), ("link", "d", "."))
        self.refused(NotAFolder, plain, ("open", "f/x"), ("rmdir", "f"), ("file", "f/x", 0), ("write", "f/x", 99, (1,)))
        self.refused(NotASign, plain, ("resign", "f", "a"), ("resign", ".", "a"))
        self.refused(FolderNotEmpty, plain, ("rmdir", "d"))
        self.refused(TooManySigns, plain, ("open", "s"), ("link", "f", "s/x"))
        self.refused(BadValue, plain, ("make", "a", 0), ["file", "a", 0], ("cut", "f", 1000), ("shut", 0), None)

    def test_rows_are_new(self):
        plain = tree(("file", "f", 0))
        plain.rows().clear()
        self.assertEqual(len(plain.rows()), 2)
        rows = plain.rows()
        plain.do(("write", "f", 0, (1,)))
        self.assertEqual(rows[1][5], ())


class SideBySideTest(unittest.TestCase):
    """Point 69: an image and a plain tree refuse the same deeds and have the same rows."""

    def test_many_deeds(self):
        counts = {}
        for seed in range(150):
            chance = random.Random(seed)
            image = Image.fresh(small_plan() if seed % 3 == 0 else wide_plan())
            plain = PlainTree()
            for _ in range(80):
                deed = random_deed(chance)
                image, outcome = self.on_image(image, deed, chance.randrange(64))
                if outcome in ONLY_IMAGES:
                    continue
                self.assertEqual(self.on_plain(plain, deed), outcome, deed)
                self.assertEqual(plain.rows(), read_tree(image))
                self.assertEqual(plain.text(), tree_text(image))
                key = outcome.__name__ if outcome else deed[0]
                counts[key] = counts.get(key, 0) + 1
        for name in ("file folder sign resign link unlink rmdir rename write cut own limit open shut piece NoSuchName "
                     "NameTaken NotAFolder NotAFile NotASign FolderNotEmpty TooLong TooManySigns IntoItself "
                     "RootFixed").split():
            self.assertGreater(counts.get(name, 0), 0, name)

    def on_image(self, image, deed, wish):
        try:
            return (do_deed(image, deed, wish=wish)[0], None)
        except Refused as error:
            return (image, type(error))

    def on_plain(self, plain, deed):
        try:
            plain.do(deed)
        except Refused as error:
            return type(error)
        return None


if __name__ == "__main__":
    unittest.main()
