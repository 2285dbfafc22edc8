import itertools
import unittest

from lotsandties.standings import (
    LETTERS,
    LOST,
    START,
    content_c,
    content_r,
    is_bad,
    is_due,
    is_standing,
    kind_c,
    kind_r,
)

SIGNS = ("FLP", "-=~FLP", "=~FLP", "KCRo", "-Ko", "-+!")


def signs(text):
    return tuple(text)


def plain_kind(kind, change):
    return {"-": kind, "=": kind, "~": "L"}.get(change, change)


def plain_is_standing(standing):
    """Point 100 once more, in other words."""
    k, c, r, h, g, y = standing
    closing = plain_kind(k, c)
    fits = [
        c != "~" or k == "L",
        c != "F" or k != "F",
        r != "~" or closing == "L",
        r != "F" or closing != "F",
        h != "K" or k != "F",
        h != "C" or c in "~LP",
        h != "R" or r in "~LP",
        g != "K" or k == "L",
        y == "-" or c in "~L",
    ]
    return all(fits)


class StandingsTest(unittest.TestCase):
    def test_names(self):
        self.assertEqual(START, ("F", "-", "=", "o", "-", "-"))
        self.assertEqual(LOST, ("lost",))
        self.assertEqual(LETTERS, tuple("takel takep change free close copy mark home early words room told".split()))

    def test_kinds(self):
        for text, closing, running in (
            ("F-=o--", "F", "F"),
            ("L-=K--", "L", "L"),
            ("P==K--", "P", "P"),
            ("L~=K--", "L", "L"),
            ("L~~K--", "L", "L"),
            ("LF=K--", "F", "F"),
            ("LFPK--", "F", "P"),
            ("FLFo--", "L", "F"),
            ("FP=o--", "P", "P"),
            ("L-~K--", "L", "L"),
            ("P-FK--", "P", "F"),
            ("PFLK--", "F", "L"),
        ):
            self.assertEqual(kind_c(signs(text)), closing, text)
            self.assertEqual(kind_r(signs(text)), running, text)

    def test_contents(self):
        for text, closing, running in (
            ("F-=o--", "-", "-"),
            ("L-=K--", "K", "K"),
            ("P==K--", "K", "K"),
            ("L~=K--", "C", "C"),
            ("L=~K--", "K", "R"),
            ("L~~K--", "C", "R"),
            ("LF=K--", "-", "-"),
            ("LFPK--", "-", "R"),
            ("FLFo--", "C", "-"),
            ("LL=K--", "C", "C"),
            ("FPLo--", "C", "R"),
        ):
            self.assertEqual(content_c(signs(text)), closing, text)
            self.assertEqual(content_r(signs(text)), running, text)

    def test_due(self):
        for c in "-=~FLP":
            self.assertIs(is_due(("L", c, "=", "K", "-", "-")), c in "~L")

    def test_all_tuples_of_signs(self):
        count = 0
        for standing in itertools.product(*SIGNS):
            fits = plain_is_standing(standing)
            self.assertIs(is_standing(standing), fits, standing)
            count += fits
        self.assertGreater(count, 300)

    def test_each_condition(self):
        self.assertTrue(is_standing(START))
        self.assertTrue(is_standing(LOST))
        for good, bad in (
            ("L~=K--", "P~=K--"),
            ("LF=K--", "FF=o--"),
            ("L-~K--", "P-~K--"),
            ("FL~o--", "FP~o--"),
            ("L-FK--", "F-Fo--"),
            ("FLFo--", "F=Fo--"),
            ("P-=K--", "F-=K--"),
            ("FP=C--", "LF=C--"),
            ("FL=C--", "L==C--"),
            ("F-LR--", "L-=R--"),
            ("L-~R--", "L-FR--"),
            ("L-=KK-", "P-=KK-"),
            ("L-=KK-", "F-=oK-"),
            ("FL=o-+", "FP=o-+"),
            ("L~=K-!", "L==K-!"),
            ("L~=K-+", "L-=K-+"),
        ):
            self.assertTrue(is_standing(signs(good)), good)
            self.assertFalse(is_standing(signs(bad)), bad)

    def test_other_tuples(self):
        for standing in ((), ("F",), signs("F-=o-"), signs("F-=o---"), ("lost", "-"), ("LOST",), ("",) * 6,
                         ("FL", "-", "=", "o", "-", "-"), ("F", "", "=", "o", "-", "-"), signs("X-=o--"),
                         signs("F?=o--"), signs("F--o--"), signs("F-=x--"), signs("F-=oC-"), signs("FL=o-K"),
                         ("F", "-", "=", "o", "-", "lost"), ("l", "o", "s", "t")):
            self.assertIs(is_standing(standing), False, standing)

    def test_bad(self):
        for text in ("F-=o--", "F-=oo-", "L-=K--", "L-=oK-", "L-=KK-", "P-=K--", "L~~oK-", "FP=o--"):
            self.assertIs(is_bad(signs(text)), False, text)
        for text in ("L-=o--", "L-=Ko-", "L-=oo-", "P-=o--", "P-=Ko-", "L-~R--", "L~=C--", "PF=o--"):
            self.assertIs(is_bad(signs(text)), True, text)
        self.assertIs(is_bad(LOST), True)


if __name__ == "__main__":
    unittest.main()
