"""Point 74: carrying a tree to another plan."""

import random
import unittest

from helpers import check_sound, done, fresh, refused, small_plan, state, used, wide_plan
from making import random_deed

from lotsandties.acting import do_deed, do_deeds
from lotsandties.carrying import carried
from lotsandties.errors import BlocksFull, NodesFull, Refused
from lotsandties.image import Image
from lotsandties.nodes import made_nodes, node_cell
from lotsandties.owners import limit_of
from lotsandties.places import held_blocks, place_block
from lotsandties.plan import Plan
from lotsandties.reading import read_tree
from lotsandties.sizes import listed
from lotsandties.walks import walk


def limits(image):
    return [limit_of(image, owner) for owner in range(4)]


class CarriedTest(unittest.TestCase):
    def check(self, image, plan):
        whole = state(image)
        new = carried(image, plan)
        self.assertEqual(state(image), whole)
        self.assertIs(type(new), Image)
        self.assertEqual(new.plan.text(), plan.text())
        self.assertEqual(read_tree(new), read_tree(image))
        self.assertEqual(limits(new), limits(image))
        self.assertEqual((listed(new), new.handles, new.serial), ([], {}, 2))
        check_sound(self, new)
        self.check_identities(new)
        return new

    def check_identities(self, new):
        before = Image.fresh(new.plan)
        for x in range(new.plan.blocks):
            if new.kind(x) == 0:
                self.assertEqual(new.identity(x), (0, 0))
            elif x >= new.plan.first_data:
                self.assertEqual(new.identity(x), (2, 2))
            else:
                self.assertEqual(new.identity(x), (1, 2 if new.cells[x] != before.cells[x] else 1))

    def test_a_fresh_image(self):
        new = self.check(fresh(), wide_plan())
        self.assertEqual(new.free_blocks(), list(range(26, 64)))

    def test_each_kind_to_equal_smaller_and_larger_plans(self):
        image = done(("file", "b", 1), ("write", "b", 14, (7, 8, 9)), ("sign", "a", 2, "x/y"), ("folder", "d", 3),
                     ("link", "b", "d/c"), ("own", ".", 2), ("limit", 1, 1), ("limit", 3, 64))
        for plan in (small_plan(), Plan(17, nodes=4, slots=18), wide_plan()):
            new = self.check(image, plan)
            self.assertEqual([walk(new, path, follow=False) for path in ("a", "b", "d", "d/c")], [2, 3, 4, 3])
            self.assertEqual([node_cell(new, n, 7) for n in made_nodes(new)], [1, 1, 1, 1])
            self.assertEqual([place_block(new, 3, o) > 0 for o in range(10)],
                             [place_block(image, 2, o) > 0 for o in range(10)])
            self.assertEqual(used(new), [0, 3, 2, 1])
        image.cells[20][0] = 99
        self.assertEqual(read_tree(new), read_tree(image))

    def test_nothing_is_shared(self):
        image = done(("file", "f", 0), ("write", "f", 0, (1,)))
        new = carried(image, image.plan)
        whole = state(new)
        for x in range(24):
            image.cells[x][0] += 1
        image.handles[2] = 1
        self.assertEqual(state(new), whole)

    def test_makings_and_numbers(self):
        image = done(("file", "z", 0), ("file", "a", 0), ("unlink", "z"), ("file", "b", 0), ("rename", "a", "y"))
        self.assertEqual([walk(image, path) for path in ("b", "y")], [2, 3])
        new = self.check(image, small_plan())
        self.assertEqual([walk(new, path) for path in ("b", "y")], [2, 3])
        image = do_deed(image, ("rename", "b", "z"))[0]
        new = self.check(image, small_plan())
        self.assertEqual([walk(new, path) for path in ("y", "z")], [2, 3])
        self.assertEqual([node_cell(new, n, 7) for n in (2, 3)], [1, 1])

    def test_places_behind_the_size(self):
        image = done(("file", "f", 0), ("write", "f", 0, (1,) * 16), ("write", "f", 16, (1,) * 16),
                     ("write", "f", 48, (1,)), ("cut", "f", 9))
        self.assertEqual(listed(image), [2])
        new = self.check(image, small_plan())
        self.assertEqual([o for o in range(10) if place_block(new, 2, o)], [0, 1])
        self.assertEqual(len(held_blocks(new, 2)), 2)
        # A growing file shows no old words.
        after, _ = do_deed(new, ("cut", "f", 40))
        self.assertEqual(read_tree(after)[1][5], (1,) * 9 + (0,) * 31)

    def test_the_place_right_behind_the_size(self):
        image = done(("file", "f", 0), ("write", "f", 0, (1,) * 16), ("write", "f", 16, (1,) * 16), ("cut", "f", 8))
        self.assertEqual([o for o in range(10) if place_block(image, 2, o)], [0, 1])
        new = self.check(image, small_plan())
        self.assertEqual([o for o in range(10) if place_block(new, 2, o)], [0])

    def test_holes_and_blocks_of_zeros(self):
        image = done(("file", "f", 0), ("write", "f", 24, (0,)), ("write", "f", 72, (0,)), ("cut", "f", 73))
        new = self.check(image, small_plan())
        self.assertEqual([o for o in range(10) if place_block(new, 2, o)], [3, 9])
        self.assertEqual(len(held_blocks(new, 2)), 3)

    def test_folders_get_a_block_for_every_four_names(self):
        for count in range(9):
            image = done(("folder", "d", 1), *[("file", f"d/{name}", 0) for name in "abcdefgh"[:count]],
                         plan=wide_plan())
            new = self.check(image, wide_plan())
            self.assertEqual(used(new), [1, (count + 3) // 4, 0, 0])
        # Holes among the entries are not carried.
        deeds = [("unlink", f"d/{name}") for name in "abcefg"]
        image = do_deeds(image, *deeds)[0]
        self.assertEqual(used(image)[1], 2)
        self.assertEqual(used(self.check(image, small_plan()))[1], 1)

    def test_what_has_no_name_is_left(self):
        image = done(("file", "f", 0), ("write", "f", 0, (1,) * 16), ("open", "f"), ("unlink", "f"), ("file", "g", 0),
                     ("open", "g"))
        new = self.check(image, small_plan())
        self.assertEqual((made_nodes(new), walk(new, "g")), ([1, 2], 2))

    def test_limits_below_what_is_used(self):
        image = done(("file", "f", 1), ("write", "f", 0, (1,) * 16), ("limit", 1, 1), ("limit", 0, 1))
        new = self.check(image, small_plan())
        self.assertEqual((used(new), limits(new)), ([1, 2, 0, 0], [1, 1, 0, 0]))

    def test_too_few_nodes(self):
        image = done(("file", "a", 0), ("file", "b", 0), ("link", "a", "c"), ("folder", "d", 0))
        self.check(image, Plan(24, nodes=4, slots=30))
        refused(self, NodesFull, carried, image, Plan(24, nodes=3, slots=30))
        # A file without a name needs no node.
        image = do_deeds(image, ("open", "b"), ("unlink", "b"))[0]
        self.check(image, Plan(24, nodes=3, slots=30))

    def test_too_few_blocks(self):
        image = done(("file", "a", 0), ("write", "a", 8, (1,) * 16), ("sign", "s", 0, "a"), ("folder", "d", 0),
                     ("file", "d/e", 0))
        # Two folders, a sign, and a file of two blocks and a block of places.
        self.check(image, Plan(15, nodes=5, slots=17))
        refused(self, BlocksFull, carried, image, Plan(15, nodes=6, slots=17))
        refused(self, BlocksFull, carried, image, Plan(14, nodes=5, slots=17))
        refused(self, NodesFull, carried, image, Plan(13, nodes=4, slots=17))
        with_more, _ = do_deed(image, ("write", "a", 0, (1,)))
        refused(self, BlocksFull, carried, with_more, Plan(15, nodes=5, slots=17))
        shorter, _ = do_deed(image, ("cut", "a", 8))
        self.check(shorter, Plan(12, nodes=5, slots=17))

    def test_many_trees(self):
        errors = {}
        for seed in range(60):
            chance = random.Random(seed)
            image = Image.fresh(wide_plan())
            for _ in range(50):
                try:
                    image, _ = do_deed(image, random_deed(chance), wish=chance.randrange(64))
                except Refused:
                    pass
            plan = chance.choice((wide_plan(), small_plan(), Plan(18, nodes=9, slots=20)))
            try:
                self.check(image, plan)
                errors[None] = errors.get(None, 0) + 1
            except (NodesFull, BlocksFull) as error:
                errors[type(error)] = errors.get(type(error), 0) + 1
        self.assertEqual(len(errors), 3)


if __name__ == "__main__":
    unittest.main()
