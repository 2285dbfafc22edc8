import random
import unittest

from helpers import done, small_plan, state, wide_plan

from lotsandties.acting import do_deed, do_deeds
from lotsandties.deeds import check_deed
from lotsandties.errors import ListFull, Refused
from lotsandties.findings import findings
from lotsandties.image import Image
from lotsandties.plan import Plan
from lotsandties.reading import read_tree
from lotsandties.sizes import listed
from lotsandties.undoing import backwards

FULL_FILE = tuple(("write", "f", at, tuple(range(at + 1, at + 17))) for at in range(0, 80, 16))
DEEP = "a/a/a/a/a/a/a/a"


def limits(image):
    return image.cells[0][4:]


def long_file(name):
    """Deeds that fill all ten places of a file."""
    return [("file", name, 0)] + [("write", name, at, tuple(range(at + 1, at + 17))) for at in range(0, 80, 16)]


class UndoingTest(unittest.TestCase):
    def undo(self, image, deed, *, wish=0):
        """Do a deed and undo it; check all that point 133 says, and return the deeds that undo it."""
        whole = state(image)
        deeds = backwards(image, deed)
        self.assertEqual(state(image), whole)
        self.assertIsInstance(deeds, list)
        self.assertLessEqual(len(deeds), 20)
        for one in deeds:
            check_deed(one)
        behind = do_deed(image, deed, wish=wish)[0]
        found = do_deeds(behind, *deeds, wish=wish)[0]
        self.assertEqual(read_tree(found), read_tree(image))
        self.assertEqual(limits(found), limits(image))
        self.assertEqual(findings(found), [])
        return deeds

    def test_new_names(self):
        image = done(("folder", "d", 1), ("file", "d/f", 0), ("sign", "s", 0, "d"))
        self.assertEqual(self.undo(image, ("file", "g", 3)), [("unlink", "g")])
        self.assertEqual(self.undo(image, ("folder", "s/g", 3)), [("rmdir", "d/g")])
        self.assertEqual(self.undo(image, ("sign", "d/g", 3, "s")), [("unlink", "d/g")])
        self.assertEqual(self.undo(image, ("link", "s/f", "s/g")), [("unlink", "d/g")])
        self.assertEqual(self.undo(image, ("link", "s", "t")), [("unlink", "t")])

    def test_texts_of_signs(self):
        image = done(("folder", "d", 1), ("sign", "d/s", 0, "a/b"), ("sign", "t", 0, "d"))
        self.assertEqual(self.undo(image, ("resign", "t/s", "c")), [("resign", "d/s", "a/b")])
        self.assertEqual(self.undo(image, ("resign", "d/s", "a/b")), [("resign", "d/s", "a/b")])
        self.assertEqual(self.undo(image, ("resign", "t", "t")), [("resign", "t", "d")])

    def test_a_name_of_several(self):
        image = done(("folder", "d", 0), ("file", "d/f", 2), ("write", "d/f", 3, (1, 2)), ("link", "d/f", "g"),
                     ("sign", "s", 1, "x"), ("link", "s", "d/t"))
        self.assertEqual(self.undo(image, ("unlink", "g")), [("link", "d/f", "g")])
        self.assertEqual(self.undo(image, ("unlink", "d/f")), [("link", "g", "d/f")])
        self.assertEqual(self.undo(image, ("unlink", "s")), [("link", "d/t", "s")])
        self.assertEqual(self.undo(image, ("rename", "s", "g")), [("rename", "g", "s"), ("link", "d/f", "g")])

    def test_the_last_name(self):
        image = done(("sign", "s", 1, "x/y"), ("file", "e", 2), ("folder", "d", 3), ("file", "f", 1))
        self.assertEqual(self.undo(image, ("unlink", "s")), [("sign", "s", 1, "x/y")])
        self.assertEqual(self.undo(image, ("unlink", "e")), [("file", "e", 2)])
        self.assertEqual(self.undo(image, ("rmdir", "d")), [("folder", "d", 3)])
        image = do_deeds(image, ("cut", "f", 70), ("write", "f", 20, (5, 0, 6)), ("write", "f", 67, (1, 2)))[0]
        deeds = self.undo(image, ("unlink", "f"))
        self.assertEqual(deeds[:3], [("file", "f", 1), ("cut", "f", 70), ("write", "f", 16, (0, 0, 0, 0, 5, 0, 6, 0))])

    def test_a_long_file(self):
        image = done(*long_file("f"), ("write", "f", 79, (3,)))
        for deed in (("unlink", "f"), ("cut", "f", 0), ("cut", "f", 3), ("cut", "f", 13), ("cut", "f", 40),
                     ("cut", "f", 63), ("cut", "f", 79)):
            self.undo(image, deed)
        self.assertEqual(self.undo(image, ("unlink", "f"))[:5], [("piece", 2)] * 4 + [("file", "f", 0)])
        image = do_deeds(image, ("file", "g", 3))[0]
        self.assertEqual(self.undo(image, ("rename", "g", "f"))[0], ("rename", "f", "g"))
        self.undo(image, ("rename", "f", "g"))

    def test_a_removed_file_that_was_unfinished(self):
        image = done(*long_file("f"), ("cut", "f", 5))
        self.assertEqual(listed(image), [2])
        self.undo(image, ("unlink", "f"))
        image = do_deeds(image, ("piece", 2))[0]
        self.undo(image, ("unlink", "f"))

    def test_moved_names(self):
        image = done(("folder", "d", 0), ("folder", "d/e", 0), ("file", "f", 2), ("sign", "s", 1, "d/e"))
        self.assertEqual(self.undo(image, ("rename", "f", "g")), [("rename", "g", "f")])
        self.assertEqual(self.undo(image, ("rename", "f", "s/g")), [("rename", "d/e/g", "f")])
        self.assertEqual(self.undo(image, ("rename", "d/e", "e")), [("rename", "e", "d/e")])
        self.assertEqual(self.undo(image, ("rename", "s", "f")), [("rename", "f", "s"), ("file", "f", 2)])
        self.assertEqual(self.undo(image, ("rename", "f", "s")), [("rename", "s", "f"), ("sign", "s", 1, "d/e")])

    def test_moves_that_change_nothing(self):
        image = done(("folder", "d", 0), ("file", "f", 2), ("link", "f", "d/g"), ("sign", "s", 0, "d"))
        for deed in (("rename", "f", "f"), ("rename", "f", "d/g"), ("rename", "s/g", "f"), ("rename", "d", "d"),
                     ("rename", "d/g", "s/g")):
            self.assertEqual(self.undo(image, deed), [])

    def test_written_words(self):
        image = done(("file", "f", 2), ("write", "f", 0, tuple(range(1, 13))))
        self.assertEqual(self.undo(image, ("write", "f", 3, (7, 8))), [("write", "f", 3, (4, 5))])
        self.assertEqual(self.undo(image, ("write", "f", 3, (4,))), [("write", "f", 3, (4,))])
        self.assertEqual(self.undo(image, ("write", "f", 11, (7, 8))), [("cut", "f", 12), ("write", "f", 11, (12,))])
        self.assertEqual(self.undo(image, ("write", "f", 12, (7,))), [("cut", "f", 12)])
        self.assertEqual(self.undo(image, ("write", "f", 40, (7,) * 16)), [("cut", "f", 12)])
        self.assertEqual(self.undo(image, ("write", "f", 41, (7,) * 16)), [("cut", "f", 48), ("cut", "f", 12)])
        self.assertEqual(self.undo(image, ("write", "f", 9, (7,) * 16)),
                         [("cut", "f", 12), ("write", "f", 9, (10, 11, 12))])
        image = done(("file", "f", 2))
        self.assertEqual(self.undo(image, ("write", "f", 5, (7,) * 16)), [("cut", "f", 8), ("cut", "f", 0)])

    def test_words_in_holes(self):
        image = done(("file", "f", 2), ("cut", "f", 60), ("write", "f", 30, (1,)))
        self.assertEqual(self.undo(image, ("write", "f", 28, (9, 9, 9, 9))), [("write", "f", 28, (0, 0, 1, 0))])
        self.undo(image, ("write", "f", 6, (9,) * 16))
        self.undo(image, ("write", "f", 50, (9,) * 16))

    def test_cuts(self):
        image = done(("file", "f", 2), ("write", "f", 0, tuple(range(1, 17))))
        self.assertEqual(self.undo(image, ("cut", "f", 16)), [])
        self.assertEqual(self.undo(image, ("cut", "f", 80)), [("cut", "f", 16)])
        self.assertEqual(self.undo(image, ("cut", "f", 13)), [("cut", "f", 16), ("write", "f", 13, (14, 15, 16))])
        self.assertEqual(self.undo(image, ("cut", "f", 8)),
                         [("cut", "f", 16), ("write", "f", 8, tuple(range(9, 17)))])
        image = done(("file", "f", 2), ("cut", "f", 30))
        self.assertEqual(self.undo(image, ("cut", "f", 0)), [("cut", "f", 30)])
        self.assertEqual(self.undo(done(("file", "f", 2)), ("cut", "f", 0)), [])

    def test_owners_and_limits(self):
        image = done(("folder", "d", 1), ("file", "d/f", 2), ("sign", "s", 0, "d/f"), ("limit", 3, 9))
        self.assertEqual(self.undo(image, ("own", "s", 0)), [("own", "d/f", 2)])
        self.assertEqual(self.undo(image, ("own", "d/f", 2)), [("own", "d/f", 2)])
        self.assertEqual(self.undo(image, ("own", "d", 2)), [("own", "d", 1)])
        self.assertEqual(self.undo(image, ("own", ".", 2)), [("own", ".", 0)])
        self.assertEqual(self.undo(image, ("limit", 3, 0)), [("limit", 3, 9)])
        self.assertEqual(self.undo(image, ("limit", 3, 9)), [("limit", 3, 9)])
        self.assertEqual(self.undo(image, ("limit", 0, 64)), [("limit", 0, 0)])

    def test_deeds_without_undoing(self):
        image = done(*long_file("f"), ("open", "f"), ("open", "f"))
        self.assertEqual(self.undo(image, ("open", "f")), [])
        self.assertEqual(self.undo(image, ("shut", 2)), [])
        image = do_deeds(image, ("cut", "f", 0))[0]
        self.assertEqual(self.undo(image, ("piece", 2)), [])

    def test_open_files(self):
        image = done(("file", "f", 1), ("write", "f", 0, (1, 2, 3)), ("open", "f"), plan=wide_plan())
        deeds = self.undo(image, ("unlink", "f"))
        self.assertNotIn("piece", [deed[0] for deed in deeds])
        self.undo(do_deeds(image, ("file", "g", 0))[0], ("rename", "g", "f"))
        # What is open keeps its node, so the deeds may be refused.
        image = done(("file", "f", 1), ("open", "f"), plan=Plan(14, nodes=2, slots=30))
        with self.assertRaises(Refused):
            do_deeds(do_deed(image, ("unlink", "f"))[0], *backwards(image, ("unlink", "f")))

    def test_a_full_list(self):
        """Files that are cut to nothing fill the list; three blocks behind the size must not put one more on it."""
        deeds = [("folder", "d", 0)]
        for name in ("a", "b", "c", "e", "f", "g", "h", "d/a"):
            deeds += [("file", name, 0), ("write", name, 0, (1,) * 16), ("write", name, 16, (1,)), ("cut", name, 0)]
        image = done(*deeds, ("file", "d/z", 0), plan=Plan(64, nodes=12, slots=80))
        self.assertEqual(len(listed(image)), 8)
        behind = do_deed(image, ("write", "d/z", 5, (7,) * 16))[0]
        with self.assertRaises(ListFull):
            do_deed(behind, ("cut", "d/z", 0))
        for at in (0, 5, 8, 12, 33, 60, 64):
            self.undo(image, ("write", "d/z", at, (7,) * 16))
        image = do_deed(image, ("write", "d/z", 0, (1, 2, 3)))[0]
        for at in (0, 5, 8, 12, 33, 60, 64):
            self.undo(image, ("write", "d/z", at, (7,) * 16))
        self.undo(image, ("unlink", "d/z"))
        self.undo(image, ("unlink", "a"))
        self.undo(image, ("rename", "d/z", "d/a"))

    def deep(self):
        """Eight folders, one in another, and a sign that leads to the innermost one."""
        deeds = [("folder", DEEP[:2 * k + 1], 0) for k in range(8)]
        return done(*deeds, ("sign", "s", 0, DEEP), plan=Plan(40, nodes=16, slots=60))

    def test_paths_with_more_than_eight_names(self):
        image = self.deep()
        for deed in (("file", "s/f", 0), ("folder", "s/f", 0), ("sign", "s/f", 0, "x"), ("link", "s", "s/f"),
                     ("rename", "s", "s/f")):
            self.assertIsNone(backwards(image, deed), deed)
        self.assertEqual(self.undo(image, ("file", "a/f", 0)), [("unlink", "a/f")])
        self.assertEqual(self.undo(image, ("own", "s", 3)), [("own", DEEP, 0)])
        self.assertEqual(self.undo(image, ("rmdir", DEEP)), [("folder", DEEP, 0)])
        image = do_deeds(image, ("file", "s/f", 2), ("write", "s/f", 0, (1,)), ("sign", "s/t", 1, "x"),
                         ("folder", "s/d", 1))[0]
        for deed in (("write", "s/f", 0, (2,)), ("cut", "s/f", 0), ("own", "s/f", 1), ("unlink", "s/f"),
                     ("resign", "s/t", "y"), ("rmdir", "s/d"), ("rename", "s/f", "f"), ("rename", "s/f", "s/g"),
                     ("rename", "s/f", "s/t")):
            self.assertIsNone(backwards(image, deed), deed)
        # Where nothing is to be done, no path is needed.
        for deed in (("cut", "s/f", 1), ("rename", "s/f", "s/f"), ("open", "s/f")):
            self.assertEqual(self.undo(image, deed), [])

    def test_a_short_path_beside_a_long_one(self):
        image = do_deeds(self.deep(), ("file", "s/f", 2), ("write", "s/f", 0, (1,)), ("link", "s/f", "b"))[0]
        self.assertEqual(self.undo(image, ("write", "s/f", 0, (2,))), [("write", "b", 0, (1,))])
        self.assertEqual(self.undo(image, ("own", "s/f", 0)), [("own", "b", 2)])
        # The name in the way of a link, or the one that the link would start from, has a path that is too long.
        self.assertIsNone(backwards(image, ("unlink", "s/f")))
        self.assertIsNone(backwards(image, ("unlink", "b")))
        self.assertIsNone(backwards(do_deed(image, ("file", "g", 0))[0], ("rename", "g", "b")))

    def test_blocks_and_nodes_that_are_just_enough(self):
        plan = Plan(20, nodes=3, slots=30)
        image = done(*long_file("f")[:-1], ("sign", "s", 0, "x"), plan=plan)
        self.assertEqual(image.free_blocks(), [19])
        for deed in (("unlink", "f"), ("unlink", "s"), ("rename", "s", "f"), ("rename", "f", "s"), ("cut", "f", 1)):
            self.undo(image, deed)
            self.undo(image, deed, wish=15)
        # The node of a file with three blocks is free again only behind a piece.
        image = done(("file", "f", 0), ("write", "f", 5, (1,) * 16), plan=Plan(20, nodes=2, slots=30))
        self.assertEqual(self.undo(image, ("unlink", "f"))[0], ("piece", 2))

    def test_sizes_without_blocks(self):
        for size in (1, 8, 80):
            image = done(("file", "f", 0), ("cut", "f", size))
            self.assertEqual(self.undo(image, ("unlink", "f")), [("file", "f", 0), ("cut", "f", size)])
            self.undo(image, ("cut", "f", 0))

    def test_deeds_by_chance(self):
        chance = random.Random(61)
        kinds = set()
        for _ in range(60):
            plan = Plan(chance.choice((20, 30, 64)), nodes=chance.choice((4, 8, 12)), slots=100)
            image = Image.fresh(plan)
            for _ in range(70):
                deed = self.deed(chance)
                try:
                    behind = do_deed(image, deed)[0]
                except Refused:
                    continue
                kinds.add((deed[0], len(self.undo(image, deed, wish=chance.randrange(64))) > 0))
                image = behind
        self.assertEqual(len(kinds), 10)

    def deed(self, chance):
        name, other = [chance.choice("abcd") + chance.choice(("", "", "/e", "/f")) for _ in range(2)]
        kind = chance.choice("file file write write write write cut cut unlink rename rename link folder sign".split())
        if kind == "write":
            words = tuple(chance.randrange(9) for _ in range(chance.choice((1, 9, 16, 16))))
            return (kind, name, chance.randrange(76), words)
        if kind == "cut":
            return (kind, name, chance.choice((0, 0, 8, chance.randrange(81))))
        if kind in ("file", "folder"):
            return (kind, name, chance.randrange(4))
        if kind == "sign":
            return (kind, name, chance.randrange(4), other)
        return (kind, name, other) if kind in ("rename", "link") else (kind, name)


if __name__ == "__main__":
    unittest.main()
