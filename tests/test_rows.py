"""Point 14: rows of scripts, scripts, and their written forms."""

import unittest

from lotsandties.errors import BadText, BadValue
from lotsandties.rows import check_row, read_row, read_script, row_text, script_text

GOOD = [
    (("do", 5, ("file", "a", 1)), "do 5 file a 1"),
    (("do", 0, ("write", "a", 3, (7, 8))), "do 0 write a 3 7 8"),
    (("do", 63, ("piece", 16)), "do 63 piece 16"),
    (("close",), "close"),
    (("copy", 7), "copy 7"),
    (("copy", 0), "copy 0"),
    (("copy", 63), "copy 63"),
    (("mark",), "mark"),
    (("home", 0), "home 0"),
    (("home", 63), "home 63"),
    (("early", 0), "early 0"),
    (("early", 63), "early 63"),
    (("words", 0), "words 0"),
    (("words", 63), "words 63"),
    (("room",), "room"),
    (("told",), "told"),
    (("sure", 1), "sure 1"),
    (("sure", 999999), "sure 999999"),
    (("barrier",), "barrier"),
    (("cut", ()), "cut"),
    (("cut", (1, 3)), "cut 1 3"),
    (("cut", (1, 999999)), "cut 1 999999"),
]

BAD = [
    None, 5, "close", "", (), [], ["close"], ("clos",), (5,), (["close"],), ("close", 1), ("mark", ()), ("room", None),
    ("told", 0), ("barrier", 1),
    ("do",), ("do", 5), ("do", ("file", "a", 1)), ("do", -1, ("file", "a", 1)), ("do", 64, ("file", "a", 1)),
    ("do", "5", ("file", "a", 1)), ("do", True, ("file", "a", 1)), ("do", 5, ["file", "a", 1]),
    ("do", 5, ("file", "a", 4)), ("do", 5, "file a 1"), ("do", 5, "file", "a", 1), ("do", 5, ("close",)),
    ("do", 5, ("file", "a", 1), 6),
    ("copy",), ("copy", -1), ("copy", 64), ("copy", "7"), ("copy", True), ("copy", 7, 8), ("copy", (7,)),
    ("home", -1), ("home", 64), ("early", -1), ("early", 64), ("words", -1), ("words", 64), ("words",),
    ("sure",), ("sure", 0), ("sure", 1000000), ("sure", -1), ("sure", "1"), ("sure", 1, 2),
    ("cut",), ("cut", 1), ("cut", 1, 3), ("cut", [1, 3]), ("cut", []), ("cut", (3, 1)), ("cut", (1, 1)), ("cut", (0,)),
    ("cut", (1000000,)), ("cut", ("1",)), ("cut", (1, "3")), ("cut", (True,)), ("cut", None), ("cut", (1, 3), 5),
    ("keep", (1, 3)), ("keep", ()), ("keep", 1),
]


class RowTest(unittest.TestCase):
    def test_rows(self):
        for row, text in GOOD:
            self.assertIsNone(check_row(row))
            self.assertEqual(row_text(row), text)
            self.assertEqual(read_row(text), row)
            self.assertIsInstance(read_row(text), tuple)

    def test_other_values(self):
        for value in BAD:
            with self.assertRaises(BadValue, msg=value):
                check_row(value)
            with self.assertRaises(BadValue, msg=value):
                row_text(value)

    def test_other_texts(self):
        texts = (
            "", " ", "clos", "close 1", "close ", " close", "Close", "mark 0", "room 1", "told 1", "barrier 1", "do",
            "do 5", "do 64 file a 1", "do file a 1", "do 05 file a 1", "do 5 file a 4", "do 5  file a 1",
            "do 5 file a 1 ", "do 5 close", "do -1 file a 1", "copy", "copy 64", "copy 07", "copy -1", "copy 7 8",
            "copy x", "home", "home 64", "early 64", "words 64", "words", "sure", "sure 0", "sure 1000000", "sure 01",
            "sure 1 2", "cut 3 1", "cut 1 1", "cut 0", "cut 1000000", "cut x", "cut ", "cut 1  3", "cut (1, 3)",
            "close\n", "close\nmark", "file a 1",
        )
        for text in texts:
            with self.assertRaises(BadText, msg=text):
                read_row(text)


class ScriptTest(unittest.TestCase):
    def test_scripts(self):
        rows = [row for row, _ in GOOD]
        text = "\n".join(text for _, text in GOOD)
        self.assertEqual(script_text(rows), text)
        self.assertEqual(read_script(text), rows)
        self.assertEqual(script_text([("close",)]), "close")
        self.assertEqual(read_script("close"), [("close",)])

    def test_the_empty_script(self):
        self.assertEqual(script_text([]), "")
        self.assertEqual(read_script(""), [])

    def test_read_lists_are_new(self):
        read_script("").append(("close",))
        self.assertEqual(read_script(""), [])

    def test_other_values(self):
        for rows in ([("close",), ["mark"]], [("cut", [1])], [None], ["close"]):
            with self.assertRaises(BadValue):
                script_text(rows)

    def test_other_texts(self):
        for text in ("\n", "close\n", "\nclose", "close\n\nmark", "close\nclos", "close mark", "close\r\nmark", " "):
            with self.assertRaises(BadText, msg=text):
                read_script(text)


if __name__ == "__main__":
    unittest.main()
