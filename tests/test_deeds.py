"""Points 12 and 13: deeds and their written form."""

import unittest

from lotsandties.deeds import check_deed, deed_text, read_deed
from lotsandties.errors import BadText, BadValue

LONG = "a/b/c/d/e/f/g/h"

GOOD = [
    (("file", "a", 1), "file a 1"),
    (("file", ".", 0), "file . 0"),
    (("file", LONG, 3), f"file {LONG} 3"),
    (("folder", "a/b", 0), "folder a/b 0"),
    (("folder", "abcd", 3), "folder abcd 3"),
    (("sign", "a", 3, "b/c"), "sign a 3 b/c"),
    (("sign", ".", 0, LONG), f"sign . 0 {LONG}"),
    (("resign", "a", "b"), "resign a b"),
    (("link", "a", "b"), "link a b"),
    (("link", ".", "."), "link . ."),
    (("unlink", "a/b"), "unlink a/b"),
    (("rmdir", "a"), "rmdir a"),
    (("rename", "a", "b/c"), "rename a b/c"),
    (("write", "a/b", 3, (7, 8)), "write a/b 3 7 8"),
    (("write", "a", 0, (0,)), "write a 0 0"),
    (("write", "a", 999, (999999999,) * 16), "write a 999" + " 999999999" * 16),
    (("cut", "a", 0), "cut a 0"),
    (("cut", "a", 999), "cut a 999"),
    (("own", "a", 0), "own a 0"),
    (("own", ".", 3), "own . 3"),
    (("limit", 0, 0), "limit 0 0"),
    (("limit", 3, 64), "limit 3 64"),
    (("open", "a"), "open a"),
    (("shut", 1), "shut 1"),
    (("shut", 16), "shut 16"),
    (("piece", 1), "piece 1"),
    (("piece", 16), "piece 16"),
    (("folder", ".", 0), "folder . 0"),
    (("resign", ".", "b"), "resign . b"),
    (("unlink", "."), "unlink ."),
    (("rmdir", "."), "rmdir ."),
    (("rename", ".", "."), "rename . ."),
    (("write", ".", 0, (7,)), "write . 0 7"),
    (("cut", ".", 0), "cut . 0"),
    (("open", "."), "open ."),
]

BAD = [
    None, 5, "file a 1", "", (), [], {}, ("file",), ("files", "a", 1), ("", "a"), (5, "a"), (["file"], "a", 1),
    (None,), (("file", "a", 1),), ["file", "a", 1],
    ("file", "a"), ("file", "a", 1, 2), ("file", "a", 4), ("file", "a", -1), ("file", "a", "1"), ("file", "a", True),
    ("file", "a", None), ("file", "", 1), ("file", "A", 1), ("file", "abcde", 1), ("file", "a/", 1), ("file", 1, 1),
    ("file", ["a"], 1), ("file", None, 1), ("file", LONG + "/i", 1), ("folder", "a", 4), ("folder", "..", 0),
    ("sign", "a", 1), ("sign", "a", 1, "."), ("sign", "a", 1, ""), ("sign", "a", 4, "b"), ("sign", "a", 1, 5),
    ("sign", "a", 1, LONG + "/i"), ("sign", "a", "b", 1),
    ("resign", "a", "."), ("resign", "a"), ("resign", "a", "b", "c"), ("resign", "a", None),
    ("link", "a"), ("link", "a", ""), ("link", "a", 1), ("link", "a", "b", "c"),
    ("unlink",), ("unlink", "a", "b"), ("unlink", ""), ("rmdir", 1), ("rmdir", "a", 0), ("rename", "a"),
    ("rename", "a", "b//c"), ("open", "a", 0), ("open", 1), ("open",),
    ("write", "a", 0), ("write", "a", 0, ()), ("write", "a", 0, [7]), ("write", "a", 0, 7), ("write", "a", -1, (7,)),
    ("write", "a", 1000, (7,)), ("write", "a", 0, (7,) * 17), ("write", "a", 0, (-1,)), ("write", "a", 0, (10 ** 9,)),
    ("write", "a", 0, ("7",)), ("write", "a", 0, (True,)), ("write", "a", 0, 7, 8), ("write", "a", 0, (7,), 8),
    ("write", "a", 0, ((7,),)), ("write", "a", "0", (7,)), ("write", "", 0, (7,)),
    ("cut", "a", -1), ("cut", "a", 1000), ("cut", "a"), ("cut", "a", 1, 2), ("cut", "a", "1"), ("cut", 1, "a"),
    ("own", "a", -1), ("own", "a", 4), ("own", "a"), ("own", 1, 1),
    ("limit", -1, 0), ("limit", 4, 0), ("limit", 0, -1), ("limit", 0, 65), ("limit", 0), ("limit", "a", 0),
    ("shut", 0), ("shut", 17), ("shut", "a"), ("shut",), ("shut", 1, 1), ("shut", True),
    ("piece", 0), ("piece", 17), ("piece", -1), ("piece",), ("piece", (1,)),
    ("file", "a", 10 ** 5000),
]


class DeedTest(unittest.TestCase):
    def test_deeds(self):
        for deed, text in GOOD:
            self.assertIsNone(check_deed(deed))
            self.assertEqual(deed_text(deed), text)
            self.assertEqual(read_deed(text), deed)

    def test_every_kind_is_here(self):
        kinds = {deed[0] for deed, _ in GOOD}
        self.assertEqual(len(kinds), 15)

    def test_read_deeds_are_tuples_of_the_right_kinds(self):
        deed = read_deed("write a/b 3 7 8")
        self.assertIsInstance(deed, tuple)
        self.assertIsInstance(deed[3], tuple)
        self.assertEqual([type(part) for part in deed], [str, str, int, tuple])

    def test_other_values(self):
        for value in BAD:
            with self.assertRaises(BadValue):
                check_deed(value)
            with self.assertRaises(BadValue):
                deed_text(value)

    def test_what_is_handed_in_stays(self):
        value = ["file", "a", 1]
        with self.assertRaises(BadValue):
            check_deed(value)
        self.assertEqual(value, ["file", "a", 1])


class ReadDeedTest(unittest.TestCase):
    def test_other_texts(self):
        texts = (
            "", " ", "file", "file a", "file a 1 2", "file a 01", "file a 4", "file a -1", "file a x", "file  a 1",
            " file a 1", "file a 1 ", "file a 1\n", "File a 1", "files a 1", "file abcde 1", "file 1 a", "sign a 1",
            "sign a 1 .", "sign a 1 b c", "sign a 1 /", "resign a .", "link a", "link a b c", "unlink", "unlink a b",
            "write a 3", "write a", "write", "write a 3 07", "write a 3 1000000000", "write a 1000 7", "write a 3 (7)",
            "write a 3 7, 8", "write a 3" + " 7" * 17, "write a 03 7", "write A 3 7", "cut a", "cut a 1000",
            "cut a 1 2", "own a 4", "limit 4 0", "limit 0 65", "limit 0", "open", "open a b", "shut 0", "shut 17",
            "shut a", "piece 0", "piece 17", "piece 1 2", "piece 1000000000000", "do 5 file a 1", "mark",
        )
        for text in texts:
            with self.assertRaises(BadText, msg=text):
                read_deed(text)


if __name__ == "__main__":
    unittest.main()
