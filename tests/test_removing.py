"""Points 56 and 57: beginning removals and going on with them."""

import unittest

from helpers import check_sound, done, refused, state, used, wide_plan

from lotsandties.errors import ListFull, NotOnList
from lotsandties.naming import make_name, unlink_name
from lotsandties.nodes import made_nodes, make_node, node_cell, put_node_cell
from lotsandties.places import held_blocks, place_block
from lotsandties.removing import begin_removal, one_piece
from lotsandties.sizes import enlist, listed, set_size


def with_file(*places, plan=None):
    """The file f of owner 1 is node 2 and has blocks at these places."""
    deeds = [("write", "f", 8 * o, (o + 1,)) for o in places]
    return done(("file", "f", 1), *deeds, plan=plan)


def nameless(*places, plan=None):
    image = with_file(*places, plan=plan)
    unlink_name(image, "f")
    return image


def with_list(*places, others=8):
    """The nameless file 2 has blocks at these places, and other files, from node 3 on, are on the list."""
    image = nameless(*places, plan=wide_plan())
    for name in "abcdefgh"[:others]:
        enlist(image, make_name(image, name, 1, 0))
    return image


class BeginTest(unittest.TestCase):
    def test_a_sign(self):
        image = done(("sign", "s", 2, "a"))
        unlink_name(image, "s")
        self.assertEqual(begin_removal(image, 2), 1)
        self.assertEqual((made_nodes(image), used(image)), ([1], [0, 0, 0, 0]))
        self.assertEqual(image.cells[image.plan.node_block(2)], [0, 0, 0, 0, 0, 0, 0, 1])
        check_sound(self, image)

    def test_a_sign_without_a_text(self):
        image = done(("file", "f", 0))
        make_node(image, 3, 1)
        self.assertEqual(begin_removal(image, 3), 1)
        self.assertEqual((made_nodes(image), used(image)), ([1, 2], [1, 0, 0, 0]))

    def test_files_of_two_places_at_most(self):
        for places in ((), (0,), (1,), (5,), (0, 1), (1, 9), (2, 3)):
            image = nameless(*places, plan=wide_plan())
            self.assertEqual(begin_removal(image, 2), len(places))
            self.assertEqual((made_nodes(image), listed(image), used(image)), ([1], [], [0, 0, 0, 0]))
            self.assertEqual(image.cells[image.plan.node_block(2)], [0, 0, 0, 0, 0, 0, 0, 1])
            check_sound(self, image)

    def test_a_file_of_three_places(self):
        image = nameless(0, 1, 2)
        blocks = [place_block(image, 2, o) for o in (0, 1)]
        self.assertEqual(begin_removal(image, 2), 2)
        self.assertEqual((made_nodes(image), listed(image)), ([1, 2], [2]))
        self.assertEqual(held_blocks(image, 2), blocks[:1])
        self.assertEqual(node_cell(image, 2, 2), 0)
        check_sound(self, image)

    def test_a_file_of_ten_places(self):
        image = nameless(*range(10), plan=wide_plan())
        self.assertEqual(used(image)[1], 11)
        self.assertEqual(begin_removal(image, 2), 2)
        self.assertEqual([o for o in range(10) if place_block(image, 2, o)], list(range(8)))
        self.assertEqual((used(image)[1], listed(image), node_cell(image, 2, 2)), (9, [2], 0))
        check_sound(self, image)

    def test_a_file_that_is_on_the_list(self):
        image = nameless(0, plan=wide_plan())
        enlist(image, 2)
        self.assertEqual(begin_removal(image, 2), 1)
        self.assertEqual((listed(image), made_nodes(image)), ([], [1]))
        image = nameless(0, 1, 2, 3, plan=wide_plan())
        enlist(image, 2)
        self.assertEqual(begin_removal(image, 2), 2)
        self.assertEqual(listed(image), [2])

    def test_eight_others_on_the_list(self):
        image = with_list(0, 1, 2)
        self.assertEqual(len(listed(image)), 8)
        refused(self, ListFull, begin_removal, image, 2)
        refused(self, ListFull, begin_removal, with_list(*range(10)), 2)
        for places in ((), (3,), (0, 9)):
            image = with_list(*places)
            self.assertEqual(begin_removal(image, 2), len(places))
            self.assertEqual((listed(image), 2 in made_nodes(image)), (list(range(3, 11)), False))

    def test_seven_others_on_the_list(self):
        image = with_list(0, 1, 2, others=7)
        self.assertEqual(begin_removal(image, 2), 2)
        self.assertEqual(listed(image), [3, 4, 5, 6, 7, 8, 9, 2])
        # Now the list is full, and the file is on it.
        image = with_list(0, 1, 2, 3, 4, others=7)
        enlist(image, 2)
        self.assertEqual(begin_removal(image, 2), 2)
        self.assertEqual(listed(image), [3, 4, 5, 6, 7, 8, 9, 2])

    def test_places_behind_the_size_count(self):
        image = with_file(*range(5))
        set_size(image, 2, 1)
        unlink_name(image, "f")
        self.assertEqual(begin_removal(image, 2), 2)
        self.assertEqual(len(held_blocks(image, 2)), 4)


class PieceTest(unittest.TestCase):
    def test_down_to_nothing(self):
        image = nameless(*range(5))
        self.assertEqual([begin_removal(image, 2), one_piece(image, 2)], [2, 2])
        self.assertEqual((listed(image), made_nodes(image)), ([2], [1, 2]))
        self.assertEqual(one_piece(image, 2), 1)
        self.assertEqual((listed(image), made_nodes(image), used(image)), ([], [1], [0, 0, 0, 0]))
        self.assertEqual(node_cell(image, 2, 7), 1)
        refused(self, NotOnList, one_piece, image, 2)
        check_sound(self, image)

    def test_a_file_with_links(self):
        image = with_file(*range(5))
        set_size(image, 2, 3)
        enlist(image, 2)
        self.assertEqual(one_piece(image, 2), 2)
        self.assertEqual(listed(image), [2])
        self.assertEqual(one_piece(image, 2), 2)
        self.assertEqual((listed(image), made_nodes(image), node_cell(image, 2, 2)), ([], [1, 2], 3))
        self.assertEqual(image.cells[place_block(image, 2, 0)][0], 1)
        check_sound(self, image)

    def test_an_open_file_with_links(self):
        image = with_file(*range(5))
        set_size(image, 2, 0)
        enlist(image, 2)
        image.handles[2] = 1
        self.assertEqual([one_piece(image, 2) for _ in range(3)], [2, 2, 1])
        self.assertEqual((listed(image), made_nodes(image), image.handles), ([], [1, 2], {2: 1}))

    def test_an_open_file_without_links(self):
        image = nameless(0, 1, 2)
        enlist(image, 2)
        image.handles[2] = 2
        refused(self, NotOnList, one_piece, image, 2)
        del image.handles[2]
        # The file still has its size; it becomes 0 first.
        self.assertEqual(node_cell(image, 2, 2), 17)
        self.assertEqual(one_piece(image, 2), 2)
        self.assertEqual((node_cell(image, 2, 2), listed(image)), (0, [2]))

    def test_a_file_that_is_finished(self):
        image = with_file(0)
        enlist(image, 2)
        self.assertEqual(one_piece(image, 2), 0)
        self.assertEqual((listed(image), made_nodes(image), node_cell(image, 2, 2)), ([], [1, 2], 1))
        image = nameless()
        enlist(image, 2)
        self.assertEqual(one_piece(image, 2), 0)
        self.assertEqual((listed(image), made_nodes(image)), ([], [1]))

    def test_not_on_the_list(self):
        image = with_file(0, 1, 2)
        set_size(image, 2, 0)
        for n in range(1, 17):
            refused(self, NotOnList, one_piece, image, n)
        put_node_cell(image, 2, 1, 0)
        refused(self, NotOnList, one_piece, image, 2)
        whole = state(image)
        enlist(image, 2)
        self.assertNotEqual(state(image), whole)
        for n in (1, 3, 6, 16):
            refused(self, NotOnList, one_piece, image, n)


if __name__ == "__main__":
    unittest.main()
