"""Point 55: the room that a deed needs."""

import random
import unittest

from helpers import done, fresh, refused, state, wide_plan

from lotsandties.acting import do_deed, do_deeds
from lotsandties.errors import BadValue, BlocksFull, Refused
from lotsandties.image import Image
from lotsandties.plan import Plan
from lotsandties.room import room_needed


def folders(*counts, plan=None):
    """The root has the folders a, b, .., with so many files in each."""
    deeds = []
    for folder, count in zip("abcd", counts):
        deeds.append(("folder", folder, 0))
        deeds.extend(("file", f"{folder}/{name}", 0) for name in "stuvwxyz"[:count])
    return done(*deeds, plan=plan or wide_plan())


class NamesTest(unittest.TestCase):
    def test_a_new_name(self):
        image = folders(0, 3, 4)
        whole = state(image)
        for kind in ("file", "folder"):
            needed = [room_needed(image, (kind, path, 0)) for path in ("q", "a/q", "b/q", "c/q")]
            self.assertEqual(needed, [(0, 0), (1, 0), (0, 0), (1, 0)])
        needed = [room_needed(image, ("sign", path, 0, "x")) for path in ("q", "a/q", "b/q", "c/q")]
        self.assertEqual(needed, [(1, 0), (2, 0), (1, 0), (2, 0)])
        needed = [room_needed(image, ("link", "b/s", path)) for path in ("q", "a/q", "b/q", "c/q")]
        self.assertEqual(needed, [(0, 0), (1, 0), (0, 0), (1, 0)])
        self.assertEqual(state(image), whole)

    def test_an_empty_entry_in_either_block(self):
        image = folders(5)
        self.assertEqual(room_needed(image, ("file", "a/q", 0)), (0, 0))
        image = do_deeds(image, ("file", "a/x", 0), ("file", "a/y", 0), ("file", "a/z", 0))[0]
        self.assertEqual(room_needed(image, ("file", "a/q", 0)), (0, 0))
        image, _ = do_deed(image, ("unlink", "a/t"))
        self.assertEqual(room_needed(image, ("file", "a/q", 0)), (0, 0))

    def test_a_fresh_image(self):
        self.assertEqual(room_needed(fresh(), ("file", "a", 0)), (1, 0))
        self.assertEqual(room_needed(fresh(), ("sign", "a", 0, "b")), (2, 0))

    def test_rename(self):
        image = folders(1, 2, 4, 0)
        needed = {("a/s", "a/q"): 0, ("b/s", "b/q"): 0, ("a/s", "b/q"): 0, ("b/s", "a/q"): 0, ("b/s", "c/q"): 1,
                  ("a/s", "c/q"): 0, ("b/s", "d/q"): 1, ("a/s", "d/q"): 0, ("b/s", "c/s"): 0, ("c/s", "c/s"): 0,
                  ("b", "a/q"): 0, ("b", "d/q"): 1, ("b", "c/q"): 1}
        for (path, new), logged in needed.items():
            self.assertEqual(room_needed(image, ("rename", path, new)), (logged, 0), (path, new))

    def test_rename_of_a_name_alone_in_its_block(self):
        image = folders(5, 4)
        # a/w is alone in the second block, a/s is not alone in the first one.
        self.assertEqual(room_needed(image, ("rename", "a/w", "b/q")), (0, 0))
        self.assertEqual(room_needed(image, ("rename", "a/s", "b/q")), (1, 0))

    def test_rename_that_changes_nothing(self):
        image = do_deeds(folders(2, 4), ("unlink", "b/s"), ("link", "a/s", "b/q"))[0]
        self.assertEqual(room_needed(image, ("rename", "a/s", "b/q")), (0, 0))


class WriteTest(unittest.TestCase):
    def test_the_example_of_the_document(self):
        image = done(("file", "f", 1))
        self.assertEqual(room_needed(image, ("write", "f", 14, (7, 8, 9))), (1, 2))

    def test_holes_at_places_1_2_and_9(self):
        image = done(("file", "f", 0), plan=wide_plan())
        for at, count, needed in ((0, 1, (0, 1)), (8, 8, (0, 1)), (7, 2, (0, 2)), (16, 1, (1, 1)), (72, 8, (1, 1)),
                                  (15, 2, (1, 2)), (64, 16, (1, 2)), (8, 16, (1, 2)), (9, 16, (1, 3))):
            self.assertEqual(room_needed(image, ("write", "f", at, (1,) * count)), needed, (at, count))

    def test_taken_places(self):
        image = done(("file", "f", 0), ("write", "f", 8, (1,)), ("write", "f", 16, (1,)), plan=wide_plan())
        for at, count, needed in ((8, 1, (0, 0)), (8, 16, (0, 0)), (7, 2, (0, 1)), (16, 1, (0, 0)), (72, 8, (0, 1)),
                                  (20, 16, (0, 2))):
            self.assertEqual(room_needed(image, ("write", "f", at, (1,) * count)), needed, (at, count))
        self.assertEqual(room_needed(image, ("write", "f", 16, (0,))), (0, 0))

    def test_through_a_sign(self):
        image = done(("file", "f", 0), ("sign", "s", 0, "f"))
        self.assertEqual(room_needed(image, ("write", "s", 0, (1,))), (0, 1))


class OtherDeedsTest(unittest.TestCase):
    def test_other_kinds(self):
        image = done(("file", "f", 0), ("sign", "s", 0, "f"), ("folder", "d", 0), ("write", "f", 0, (1,)))
        for deed in (("resign", "s", "a/b/c/d/e/f/g/h"), ("unlink", "f"), ("rmdir", "d"), ("cut", "f", 80),
                     ("cut", "f", 0), ("own", "f", 3), ("limit", 0, 1), ("open", "f"), ("shut", 2), ("piece", 2)):
            self.assertEqual(room_needed(image, deed), (0, 0))

    def test_refused_deeds(self):
        image = folders(4, 8)
        full = done(*[("file", name, 0) for name in "abcd"])
        for base, deed in ((image, ("file", "a/s", 0)), (image, ("file", "b/q", 0)), (image, ("file", ".", 0)),
                           (image, ("sign", "x/y", 0, "a")), (image, ("link", "a", "a/q")),
                           (image, ("link", "none", "a/q")), (image, ("rename", "b", "b/q")),
                           (image, ("rename", "a/s", "b/q")), (image, ("write", "a/s", 80, (1,))),
                           (image, ("write", "a", 0, (1,))), (full, ("file", "e", 0)),
                           (full, ("write", "a", 79, (1, 2)))):
            self.assertRaises(Refused, do_deed, base, deed)
            self.assertEqual(room_needed(base, deed), (0, 0), deed)

    def test_deeds_refused_for_a_lack_of_blocks(self):
        image = done(("file", "f", 0), ("limit", 0, 1), ("folder", "d", 0), ("file", "g", 0))
        for deed, needed in ((("sign", "s", 0, "f"), (1, 0)), (("write", "f", 15, (1, 2)), (1, 2)),
                             (("file", "d/x", 0), (1, 0)), (("link", "f", "d/f"), (1, 0)),
                             (("rename", "f", "d/f"), (1, 0))):
            deeds = (deed,)
            self.assertRaises(Refused, do_deeds, image, *deeds)
            self.assertEqual(room_needed(image, deed), needed)
        # OverQuota for the deed `own` asks for no block.
        image = done(("file", "f", 0), ("write", "f", 0, (1,)), ("limit", 1, 1), ("file", "g", 1),
                     ("write", "g", 0, (1,)))
        self.assertEqual(room_needed(image, ("own", "f", 1)), (0, 0))
        crowded = image.twin()
        while crowded.free_blocks():
            crowded.take(1, 3)
        self.assertEqual(room_needed(crowded, ("write", "f", 15, (1, 2))), (1, 2))

    def test_no_deed(self):
        image = fresh()
        for deed in (("make", "a"), ["file", "a", 0], ("file", "A", 0), ("write", "none", 1000, (1,)), ()):
            refused(self, BadValue, room_needed, image, deed)


class ManyDeedsTest(unittest.TestCase):
    """Without limits, BlocksFull comes exactly if fewer blocks are free than needed."""

    def test_many_deeds(self):
        counts = {True: 0, False: 0}
        for seed in range(60):
            chance = random.Random(seed)
            image = Image.fresh(Plan(chance.choice((12, 14, 16)), nodes=6, slots=20))
            for _ in range(60):
                deed = self.deed(chance)
                room = sum(room_needed(image, deed))
                free = len(image.free_blocks())
                try:
                    image, _ = do_deed(image, deed)
                    self.assertLessEqual(room, free, deed)
                    counts[True] += 1
                except BlocksFull:
                    self.assertGreater(room, free, deed)
                    counts[False] += 1
                except Refused:
                    self.assertEqual(room, 0)
        self.assertGreater(min(counts.values()), 100)

    def deed(self, chance):
        paths = ["a", "b", "c", "d", "e", "a/b", "a/c", "b/a", "b/c"]
        path, new = chance.choice(paths), chance.choice(paths)
        kind = chance.choice("file folder folder sign link unlink rmdir rename rename write write write cut".split())
        if kind in ("file", "folder"):
            return (kind, path, 0)
        if kind == "sign":
            return (kind, path, 0, new)
        if kind in ("link", "rename"):
            return (kind, path, new)
        if kind == "write":
            return (kind, path, chance.randrange(70), (1,) * chance.randrange(1, 17))
        return (kind, path, chance.randrange(80)) if kind == "cut" else (kind, path)


if __name__ == "__main__":
    unittest.main()
