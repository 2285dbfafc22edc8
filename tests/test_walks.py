"""Points 46 and 47: walks."""

import unittest

from helpers import done, fresh, names_of, refused, state, wide_plan

from lotsandties.acting import do_deeds
from lotsandties.errors import NoSuchName, NotAFile, NotAFolder, RootFixed, TooManySigns
from lotsandties.folders import add_entry
from lotsandties.walks import is_inside, path_names, visited, walk, walk_file, walk_parent

TREE = (
    ("folder", "d", 0),
    ("folder", "d/e", 0),
    ("file", "d/e/f", 0),
    ("file", "g", 0),
    ("sign", "s", 0, "d/e"),
    ("sign", "t", 0, "s/f"),
    ("sign", "d/u", 0, "g"),
    ("sign", "gone", 0, "none"),
)
D, E, F, G, S, T, U, GONE = range(2, 10)


def tree():
    return done(*TREE, plan=wide_plan())


def chain(many):
    """Signs that lead each to the next one, the last one to the file g, which is node 4."""
    spots = [f"{folder}/{name}" for folder in "de" for name in "abcde"]
    deeds = [("folder", "d", 0), ("folder", "e", 0), ("file", "g", 0)]
    for spot, text in zip(spots[:many], spots[1:many] + ["g"]):
        deeds.append(("sign", spot, 0, text))
    return done(*deeds, plan=wide_plan())


class PathNamesTest(unittest.TestCase):
    def test_path_names(self):
        self.assertEqual(path_names("."), [])
        self.assertEqual(path_names("a"), ["a"])
        self.assertEqual(path_names("a/bc/zzzz"), ["a", "bc", "zzzz"])
        self.assertEqual(path_names("a/b/c/d/e/f/g/h"), list("abcdefgh"))


class WalkTest(unittest.TestCase):
    def test_the_root(self):
        image = tree()
        self.assertEqual((walk(image, "."), list(visited(image, "."))), (1, [1]))
        self.assertEqual(list(visited(fresh(), ".", follow=False)), [1])

    def test_names(self):
        image = tree()
        whole = state(image)
        self.assertEqual(list(visited(image, "d/e/f")), [1, D, E, F])
        self.assertEqual([walk(image, path) for path in ("d", "d/e", "d/e/f", "g")], [D, E, F, G])
        self.assertEqual(state(image), whole)

    def test_the_example_of_the_document(self):
        image = done(("sign", "a", 0, "b"), ("folder", "b", 0), ("file", "b/c", 0))
        self.assertEqual(list(visited(image, "a/c")), [1, 2, 1, 3, 4])
        self.assertEqual(list(visited(image, "a/c", follow=False)), [1, 2, 1, 3, 4])

    def test_a_sign_at_the_end(self):
        image = tree()
        self.assertEqual(list(visited(image, "s")), [1, S, 1, D, E])
        self.assertEqual(list(visited(image, "s", follow=False)), [1, S])
        self.assertEqual((walk(image, "s"), walk(image, "s", follow=False)), (E, S))

    def test_a_sign_in_the_middle(self):
        image = tree()
        self.assertEqual(list(visited(image, "s/f", follow=False)), [1, S, 1, D, E, F])
        self.assertEqual(list(visited(image, "d/u", follow=False)), [1, D, U])

    def test_a_sign_to_a_sign(self):
        image = tree()
        self.assertEqual(list(visited(image, "t")), [1, T, 1, S, 1, D, E, F])
        self.assertEqual(walk(image, "t", follow=False), T)

    def test_the_end_of_a_text_is_followed_only_with_follow(self):
        image = done(("sign", "a", 0, "b"), ("sign", "b", 0, "c"), ("file", "c", 0))
        self.assertEqual(list(visited(image, "a")), [1, 2, 1, 3, 1, 4])
        self.assertEqual(list(visited(image, "a", follow=False)), [1, 2])

    def test_no_such_name(self):
        image = tree()
        for path in ("x", "d/x", "d/e/x", "gone", "gone/x", "x/y", "s/g"):
            refused(self, NoSuchName, walk, image, path)
        self.assertEqual(walk(image, "gone", follow=False), GONE)

    def test_names_behind_a_file(self):
        image = tree()
        for path in ("g/x", "d/e/f/g", "t/x", "d/u/d"):
            refused(self, NotAFolder, walk, image, path)

    def test_an_error_comes_after_the_nodes_before_it(self):
        image = tree()
        for path, nodes, error in (("d/x", [1, D], NoSuchName), ("g/x", [1, G], NotAFolder),
                                   ("gone", [1, GONE, 1], NoSuchName)):
            met = []
            with self.assertRaises(error):
                for n in visited(image, path):
                    met.append(n)
            self.assertEqual(met, nodes)

    def test_eight_signs_and_nine(self):
        self.assertEqual(walk(chain(8), "d/a"), 4)
        image = chain(9)
        self.assertEqual(walk(image, "d/b"), 4)
        refused(self, TooManySigns, walk, image, "d/a")
        met = []
        with self.assertRaises(TooManySigns):
            for n in visited(image, "d/a"):
                met.append(n)
        # The root is met at the start and behind each of eight signs; the ninth sign is met and not followed.
        self.assertEqual(met.count(1), 9)
        self.assertEqual(met[-1], walk(image, "e/d", follow=False))

    def test_a_ninth_sign_that_is_not_followed(self):
        image = done(("sign", "a", 0, "a/b"), ("sign", "b", 0, "b"))
        refused(self, TooManySigns, walk, image, "b")
        refused(self, TooManySigns, walk, image, "a/b", follow=False)
        self.assertEqual(walk(image, "b", follow=False), 3)
        # Behind eight signs a ninth one may stand at the end.
        image = do_deeds(chain(8), ("resign", "e/c", "d"), ("sign", "d/z", 0, "g"))[0]
        self.assertEqual(walk(image, "d/a/z", follow=False), walk(image, "d/z", follow=False))
        refused(self, TooManySigns, walk, image, "d/a/z")

    def test_a_sign_that_leads_to_itself(self):
        image = done(("sign", "a", 0, "a"))
        refused(self, TooManySigns, walk, image, "a")
        refused(self, TooManySigns, walk, image, "a/b")
        self.assertEqual(walk(image, "a", follow=False), 2)
        with self.assertRaises(TooManySigns):
            list(visited(image, "a/b", follow=False))


class ParentTest(unittest.TestCase):
    def test_walk_parent(self):
        image = tree()
        whole = state(image)
        for path, expected in (("a", (1, "a")), ("d", (1, "d")), ("d/e", (D, "e")), ("d/e/x", (E, "x")),
                               ("s/f", (E, "f")), ("d/u", (D, "u"))):
            self.assertEqual(walk_parent(image, path), expected)
        self.assertEqual(state(image), whole)

    def test_errors(self):
        image = tree()
        refused(self, RootFixed, walk_parent, image, ".")
        refused(self, NoSuchName, walk_parent, image, "x/y")
        refused(self, NoSuchName, walk_parent, image, "gone/y")
        refused(self, NotAFolder, walk_parent, image, "g/y")
        refused(self, NotAFolder, walk_parent, image, "t/y")
        refused(self, NotAFolder, walk_parent, image, "g/x/y")
        image = done(("sign", "a", 0, "a"))
        refused(self, TooManySigns, walk_parent, image, "a/b")
        self.assertEqual(walk_parent(image, "a"), (1, "a"))

    def test_walk_file(self):
        image = tree()
        for path, n in (("g", G), ("d/e/f", F), ("t", F), ("d/u", G)):
            self.assertEqual(walk_file(image, path), n)
        for path in (".", "d", "s"):
            refused(self, NotAFile, walk_file, image, path)
        refused(self, NoSuchName, walk_file, image, "gone")
        refused(self, NotAFolder, walk_file, image, "g/g")


class InsideTest(unittest.TestCase):
    def test_is_inside(self):
        image = tree()
        whole = state(image)
        inside = {1: range(1, 10), D: (D, E, F, U), E: (E, F), F: (F,), G: (G,), S: (S,), U: (U,)}
        for top, nodes in inside.items():
            for n in range(1, 11):
                self.assertEqual(is_inside(image, top, n), n in nodes, (top, n))
        self.assertEqual(state(image), whole)

    def test_folders_in_a_circle(self):
        image = done(("folder", "a", 0), ("folder", "a/b", 0), ("file", "c", 0))
        add_entry(image, 3, "up", 2)
        self.assertEqual(names_of(image, 3), [(21 * 27 + 16, 2, 1)])
        self.assertTrue(is_inside(image, 3, 2) and is_inside(image, 2, 3))
        self.assertFalse(is_inside(image, 2, 4) or is_inside(image, 3, 1))


if __name__ == "__main__":
    unittest.main()
