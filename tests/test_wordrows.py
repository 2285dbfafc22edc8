"""Points 39, 40 and 42: reading and writing words."""

import random
import unittest

from helpers import check_blocks, fresh, limit, state, used

from lotsandties.errors import BlocksFull, OverQuota, Refused, TooLong, Unfinished
from lotsandties.nodes import make_node, node_cell, put_node_cell
from lotsandties.places import held_blocks, place_block, take_place
from lotsandties.sizes import free_piece, set_size, unfinished
from lotsandties.wordrows import file_words, read_words, write_words


def with_file(owner=0):
    image = fresh()
    make_node(image, 1, owner)
    return image


def places(image, n):
    return [o for o in range(10) if place_block(image, n, o)]


def fill(image, many):
    while len(image.free_blocks()) > many:
        image.take(1, 3)


class WriteTest(unittest.TestCase):
    def test_the_example_of_the_document(self):
        image = with_file()
        self.assertIsNone(write_words(image, 2, 14, (7, 8, 9)))
        self.assertEqual([place_block(image, 2, o) for o in (0, 1, 2)], [0, 10, 12])
        self.assertEqual(image.cells[6][6], 11)
        self.assertEqual(held_blocks(image, 2), [10, 12, 11])
        self.assertEqual(node_cell(image, 2, 2), 17)
        self.assertEqual(file_words(image, 2), (0,) * 14 + (7, 8, 9))
        check_blocks(self, image)

    def test_lists_and_tuples(self):
        image = with_file()
        words = [1, 2, 3]
        write_words(image, 2, 0, words)
        self.assertEqual(words, [1, 2, 3])
        words[0] = 9
        self.assertEqual(file_words(image, 2), (1, 2, 3))
        write_words(image, 2, 1, (5,))
        self.assertEqual(file_words(image, 2), (1, 5, 3))

    def test_zeros_take_blocks(self):
        image = with_file()
        write_words(image, 2, 30, (0, 0, 0))
        self.assertEqual(places(image, 2), [3, 4])
        self.assertEqual(file_words(image, 2), (0,) * 33)
        self.assertEqual(used(image), [3, 0, 0, 0])

    def test_the_whole_file(self):
        image = with_file()
        words = tuple(range(1, 81))
        write_words(image, 2, 0, words)
        self.assertEqual(file_words(image, 2), words)
        self.assertEqual(places(image, 2), list(range(10)))
        check_blocks(self, image)

    def test_only_places_with_a_cell_to_be_written(self):
        for at, many, expected in ((0, 8, [0]), (0, 9, [0, 1]), (7, 1, [0]), (7, 2, [0, 1]), (8, 8, [1]),
                                   (15, 2, [1, 2]), (16, 1, [2]), (72, 8, [9]), (79, 1, [9]), (71, 2, [8, 9])):
            image = with_file()
            write_words(image, 2, at, [5] * many)
            self.assertEqual(places(image, 2), expected)
            self.assertEqual(node_cell(image, 2, 2), at + many)
            check_blocks(self, image)

    def test_the_size_grows_only(self):
        image = with_file()
        write_words(image, 2, 0, [1] * 10)
        write_words(image, 2, 2, [2])
        self.assertEqual(node_cell(image, 2, 2), 10)
        write_words(image, 2, 9, [3])
        self.assertEqual(node_cell(image, 2, 2), 10)
        write_words(image, 2, 9, [3, 4])
        self.assertEqual(node_cell(image, 2, 2), 11)
        self.assertEqual(file_words(image, 2), (1, 1, 2) + (1,) * 6 + (3, 4))

    def test_old_words_behind_the_size_do_not_come_back(self):
        image = with_file()
        put_node_cell(image, 2, 2, 3)
        image.cells[take_place(image, 2, 0)] = [9] * 8
        write_words(image, 2, 6, [5])
        self.assertEqual(file_words(image, 2), (9, 9, 9, 0, 0, 0, 5))
        self.assertEqual(image.cells[place_block(image, 2, 0)], [9, 9, 9, 0, 0, 0, 5, 0])
        image.cells[place_block(image, 2, 0)][7] = 9
        write_words(image, 2, 20, [6])
        self.assertEqual(read_words(image, 2, 6, 3), [5, 0, 0])

    def test_old_words_stay_where_the_size_does(self):
        image = with_file()
        put_node_cell(image, 2, 2, 3)
        image.cells[take_place(image, 2, 0)] = [9] * 8
        write_words(image, 2, 0, [5, 5, 5])
        self.assertEqual(image.cells[place_block(image, 2, 0)], [5, 5, 5, 9, 9, 9, 9, 9])
        put_node_cell(image, 2, 2, 8)
        write_words(image, 2, 8, [1])
        self.assertEqual(image.cells[place_block(image, 2, 0)], [5, 5, 5, 9, 9, 9, 9, 9])

    def test_holes_are_filled_in_their_order(self):
        image = with_file()
        image.begin(20, ())
        write_words(image, 2, 8, [1])
        write_words(image, 2, 0, [2] * 30)
        self.assertEqual([place_block(image, 2, o) for o in range(4)], [21, 20, 23, 10])
        self.assertEqual(image.cells[6][6], 22)


class RefusedTest(unittest.TestCase):
    def refused(self, error, image, at, words):
        whole = state(image)
        with self.assertRaises(error):
            write_words(image, 2, at, words)
        self.assertEqual(state(image), whole)

    def test_too_long(self):
        image = with_file()
        self.refused(TooLong, image, 80, [1])
        self.refused(TooLong, image, 79, [1, 2])
        self.refused(TooLong, image, 999, [1] * 16)
        self.refused(TooLong, image, 0, [1] * 81)
        write_words(image, 2, 79, [1])

    def test_unfinished_comes_first(self):
        image = with_file()
        take_place(image, 2, 0)
        self.refused(Unfinished, image, 0, [1])
        self.refused(Unfinished, image, 80, [1])
        limit(image, 0, 1)
        self.refused(Unfinished, image, 30, [1])
        free_piece(image, 2)
        write_words(image, 2, 0, [1])

    def test_too_long_comes_before_blocks(self):
        image = with_file()
        fill(image, 0)
        self.refused(TooLong, image, 79, [1, 2])
        self.refused(BlocksFull, image, 79, [1])

    def test_a_limit_in_the_middle(self):
        for most in range(1, 6):
            image = with_file(2)
            limit(image, 2, most)
            image.begin(0, ())
            # Places 0 to 3 and the block of places: five blocks.
            if most < 5:
                self.refused(OverQuota, image, 0, [7] * 32)
                self.assertEqual(used(image), [0, 0, 0, 0])
            else:
                write_words(image, 2, 0, [7] * 32)
                self.assertEqual(used(image), [0, 0, 5, 0])

    def test_want_of_blocks_in_the_middle(self):
        for many in range(6):
            image = with_file()
            image.begin(0, ())
            fill(image, many)
            if many < 5:
                self.refused(BlocksFull, image, 0, [7] * 32)
            else:
                write_words(image, 2, 0, [7] * 32)

    def test_barred_blocks_in_the_middle(self):
        image = with_file()
        image.begin(0, list(range(13, 24)))
        self.refused(BlocksFull, image, 0, [7] * 32)
        image.begin(0, list(range(14, 24)))
        self.refused(BlocksFull, image, 0, [7] * 32)
        # The block of places may be a barred one.
        image.begin(0, list(range(14, 24)))
        write_words(image, 2, 0, [7] * 24)

    def test_what_was_written_before_stays(self):
        image = with_file()
        write_words(image, 2, 0, [1] * 12)
        fill(image, 1)
        self.refused(BlocksFull, image, 10, [2] * 10)
        self.assertEqual(file_words(image, 2), (1,) * 12)
        write_words(image, 2, 10, [2] * 6)


class ReadTest(unittest.TestCase):
    def test_holes_and_the_size(self):
        image = with_file()
        write_words(image, 2, 12, [1, 2, 3, 4, 5, 6])
        self.assertEqual(read_words(image, 2, 11, 4), [0, 1, 2, 3])
        self.assertEqual(read_words(image, 2, 0, 8), [0] * 8)
        self.assertEqual(read_words(image, 2, 15, 8), [4, 5, 6, 0, 0, 0, 0, 0])
        self.assertEqual(read_words(image, 2, 17, 0), [])
        self.assertEqual(read_words(image, 2, 80, 3), [0, 0, 0])
        self.assertEqual(read_words(image, 2, 999, 20), [0] * 20)
        self.assertEqual(read_words(image, 2, 75, 10), [0] * 10)
        self.assertEqual(read_words(image, 2, 0, 200), [0] * 12 + [1, 2, 3, 4, 5, 6] + [0] * 182)

    def test_words_behind_the_size_are_not_read(self):
        image = with_file()
        put_node_cell(image, 2, 2, 10)
        image.cells[take_place(image, 2, 1)] = [9] * 8
        self.assertEqual(read_words(image, 2, 7, 6), [0, 9, 9, 0, 0, 0])
        self.assertEqual(file_words(image, 2), (0,) * 8 + (9, 9))
        take_place(image, 2, 2)
        self.assertTrue(unfinished(image, 2))
        self.assertEqual(read_words(image, 2, 16, 2), [0, 0])

    def test_the_empty_file(self):
        image = with_file()
        whole = state(image)
        self.assertEqual(file_words(image, 2), ())
        self.assertEqual(read_words(image, 2, 0, 3), [0, 0, 0])
        self.assertEqual(state(image), whole)

    def test_returned_values(self):
        image = with_file()
        write_words(image, 2, 0, [1, 2])
        self.assertIsInstance(file_words(image, 2), tuple)
        read_words(image, 2, 0, 2).clear()
        self.assertEqual(read_words(image, 2, 0, 2), [1, 2])


class ManyStepsTest(unittest.TestCase):
    """Three files against lists of words."""

    def step(self, chance, image, model):
        n = chance.randrange(2, 5)
        words = model[n]
        whole = state(image)
        image.begin(chance.randrange(64), chance.sample(range(24), chance.randrange(6)))
        begun = state(image)
        try:
            if chance.randrange(3) == 0:
                size = chance.randrange(90)
                set_size(image, n, size)
                model[n] = (words + [0] * size)[:size]
            else:
                at = chance.randrange(80)
                new = [chance.randrange(4) for _ in range(chance.randrange(1, 17))]
                write_words(image, n, at, new)
                words = words + [0] * (at + len(new) - len(words))
                model[n] = words[:at] + new + words[at + len(new):]
        except Refused as error:
            self.assertEqual(state(image), begun)
            self.assertNotEqual(begun, whole)
            return type(error).__name__
        if chance.randrange(4):
            while free_piece(image, n):
                pass
        return "done"

    def test_many_steps(self):
        seen = set()
        for seed in range(25):
            chance = random.Random(seed)
            image = fresh()
            model = {}
            for owner in range(3):
                model[make_node(image, 1, owner)] = []
            limit(image, 1, chance.randrange(1, 8))
            for _ in range(60):
                before = image.twin()
                seen.add(self.step(chance, image, model))
                image.settle(before)
                for n in model:
                    self.assertEqual(list(file_words(image, n)), model[n])
                check_blocks(self, image)
        self.assertEqual(seen, {"done", "Unfinished", "TooLong", "OverQuota", "BlocksFull"})


if __name__ == "__main__":
    unittest.main()
