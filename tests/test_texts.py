"""Points 3 and 4: written numbers, words, names and paths."""

import unittest

from lotsandties.errors import BadText
from lotsandties.texts import code_name, is_name, is_path, name_code, read_number, split_words


class NumberTest(unittest.TestCase):
    def test_written_numbers(self):
        for word, number in (("0", 0), ("7", 7), ("10", 10), ("64", 64), ("999999999999", 999999999999)):
            self.assertEqual(read_number(word, 999999999999), number)

    def test_the_greatest_number_is_let(self):
        self.assertEqual(read_number("63", 63), 63)
        self.assertEqual(read_number("0", 0), 0)
        for word, most in (("64", 63), ("1", 0), ("999999999999", 999999999998)):
            with self.assertRaises(BadText):
                read_number(word, most)

    def test_other_words(self):
        words = ("", "00", "01", "007", "-1", "+1", "1.0", " 1", "1 ", "1\n", "a", "1a", "0x1", "1_0", "1000000000000",
                 "0000000000001", "\u0661", "\u00b2")
        for word in words:
            with self.assertRaises(BadText, msg=word):
                read_number(word, 10 ** 15)


class WordsTest(unittest.TestCase):
    def test_words(self):
        self.assertEqual(split_words(""), [])
        self.assertEqual(split_words("a"), ["a"])
        self.assertEqual(split_words("do 5 file a"), ["do", "5", "file", "a"])
        self.assertEqual(split_words("a\tb\nc"), ["a\tb\nc"])

    def test_empty_words(self):
        for line in (" ", "  ", " a", "a ", "a  b", "a b "):
            with self.assertRaises(BadText, msg=line):
                split_words(line)

    def test_returned_lists_are_new(self):
        words = split_words("a b")
        words.append("c")
        self.assertEqual(split_words("a b"), ["a", "b"])


class NameTest(unittest.TestCase):
    def test_names(self):
        for text in ("a", "z", "ab", "abc", "abcd", "zzzz"):
            self.assertIs(is_name(text), True)
        for text in ("", "abcde", "A", "a1", "a b", "a/b", ".", "\u00e4", "a\n", "ab-", "`", "{"):
            self.assertIs(is_name(text), False)

    def test_paths(self):
        for text in (".", "a", "a/b", "abcd/z", "a/b/c/d/e/f/g/h"):
            self.assertIs(is_path(text), True)
        for text in ("", "/", "/a", "a/", "a//b", "./a", "a/.", "..", "a/b/c/d/e/f/g/h/i", "abcde", "a/abcde", "A",
                     "a b", "a\n"):
            self.assertIs(is_path(text), False)

    def test_codes_of_the_document(self):
        for name, code in (("a", 1), ("z", 26), ("aa", 28), ("ab", 29), ("zzzz", 531440)):
            self.assertEqual(name_code(name), code)
            self.assertEqual(code_name(code), name)

    def test_codes_of_all_short_names(self):
        letters = "abcdefghijklmnopqrstuvwxyz"
        names = list(letters) + [a + b for a in letters for b in letters] + ["abc", "zaz", "wxyz", "aaaa", "azzz"]
        for name in names:
            self.assertEqual(code_name(name_code(name)), name)

    def test_every_code(self):
        for code in range(20000):
            digits = []
            rest = code
            while rest:
                digits.append(rest % 27)
                rest //= 27
            if digits and 0 not in digits:
                self.assertEqual(name_code(code_name(code)), code)
            else:
                self.assertEqual(code_name(code), "?")

    def test_numbers_that_are_no_codes(self):
        for code in (0, 27, 54, 27 * 27, 27 ** 3, 27 ** 4, 27 ** 4 + 1, 10 ** 30, -1, -28, -27 ** 4):
            self.assertEqual(code_name(code), "?")


if __name__ == "__main__":
    unittest.main()
