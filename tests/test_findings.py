import random
import unittest

from helpers import done, small_plan, state

from lotsandties.acting import do_deeds
from lotsandties.checking import is_clean
from lotsandties.findings import findings
from lotsandties.image import Image
from lotsandties.mending import losses, mended
from lotsandties.plan import Plan

# What the image of most tests has: node 1, the root, with block 10; node 2, the folder d of owner 1, with block 11;
# node 3, the file d/f of owner 2, also called g, with blocks 12, 13 and 15 at places 0 to 2 and 14 as the block of
# places; node 4, the sign s of owner 3, with block 16; node 5 is unmade. Node n has block 4 + n.
DEEDS = (
    ("folder", "d", 1),
    ("file", "d/f", 2),
    ("write", "d/f", 6, (1, 2, 3, 4, 5, 6, 7, 8, 9, 10, 11, 12)),
    ("sign", "s", 3, "d/f"),
    ("link", "d/f", "g"),
)
D, S, G, F = 4, 19, 7, 6
MANY = 15624999


def tie(n, making=1):
    return making * 64 + n


def spoilt(image, changes):
    """A twin of an image with other cells: a dict from blocks to dicts from cells to numbers."""
    image = image.twin()
    for x, cells in changes.items():
        for cell, number in cells.items():
            image.cells[x][cell] = number
    return image


class FindingsTest(unittest.TestCase):
    def finds(self, changes, wanted, *, numbered=True, image=None):
        """Check the findings on an image with other cells, and all that is promised of mending it."""
        image = spoilt(image or done(*DEEDS), changes)
        whole = state(image)
        self.assertEqual(findings(image, numbered=numbered), wanted)
        better, lost = mended(image, numbered=numbered)
        self.assertEqual(state(image), whole)
        self.assertEqual(lost, [finding for finding in wanted if finding[0] in ("node", "place", "entry")])
        self.assertEqual(list(losses(wanted)), lost)
        self.assertEqual(findings(better), [])
        self.assertEqual(findings(better, numbered=False), [])
        self.assertIs(is_clean(better), True)
        self.assertEqual(state(better), state(Image.of_cells(image.plan, better.cells)))
        if numbered:
            self.assertIs(is_clean(image), wanted == [])
        return better

    def cells(self, image, block):
        return image.cells[block]

    def test_the_image_of_these_tests(self):
        image = done(*DEEDS)
        self.assertEqual(image.cells[10], [D, tie(2), S, tie(4), G, tie(3), 0, 0])
        self.assertEqual(image.cells[11], [F, tie(3), 0, 0, 0, 0, 0, 0])
        self.assertEqual(image.cells[7], [1, 2, 18, 2, 12, 13, 14, 1])
        self.assertEqual(image.cells[8], [3, 1, 2, 3, 16, 0, 0, 1])
        self.assertEqual(image.cells[14], [15, 0, 0, 0, 0, 0, 0, 0])
        self.assertEqual(image.cells[0], [1, 1, 4, 1, 0, 0, 0, 0])
        better = self.finds({}, [])
        self.assertEqual(better.cells, image.cells)
        self.finds({}, [], numbered=False)

    def test_fresh_images(self):
        for plan in (small_plan(), Plan(8, nodes=2, slots=9), Plan(64, nodes=16, slots=200), Plan(33, nodes=4, slots=34)):
            self.assertEqual(findings(Image.fresh(plan)), [])
            self.assertIs(is_clean(Image.fresh(plan)), True)

    def test_what_is_not_looked_at(self):
        self.finds({12: {0: 5, 7: 999999999}, 15: {2: 77}, 16: {2: 999999999, 7: 3}}, [])
        # The log of free data blocks does not count either; mending makes their cells 0.
        better = self.finds({20: {3: 9}}, [])
        self.assertEqual(better.cells[20], [0] * 8)

    def test_an_image_that_deeds_made_is_sound_with_open_files_and_pieces(self):
        image = done(*DEEDS, ("open", "g"), ("unlink", "g"), ("unlink", "d/f"))
        self.assertEqual(image.cells[1], [3, 0, 0, 0, 0, 0, 0, 0])
        self.finds({}, [], image=image)
        image = do_deeds(image, ("shut", 3))[0]
        self.finds({}, [], image=image)
        image = do_deeds(image, ("piece", 3))[0]
        self.finds({}, [], image=image)
        self.finds({}, [], image=done(*DEEDS, ("cut", "g", 0)))

    # Stage 1

    def test_root(self):
        for cell, number, right in ((0, 0, 2), (0, 1, 2), (0, 999999999, 2), (1, 0, 1), (1, 2, 1), (3, 4, 0),
                                    (6, 14, 0), (6, 999999999, 0), (7, 0, 1), (7, 2, 1)):
            better = self.finds({5: {cell: number}}, [("root",)])
            self.assertEqual(better.cells[5][cell], right)
        better = self.finds({5: {0: 3, 1: 9, 3: 77, 6: 1, 7: MANY}}, [("root",)])
        self.assertEqual(better.cells, done(*DEEDS).cells)

    def test_the_root_may_have_another_owner(self):
        self.finds({5: {3: 2}}, [("used", 0), ("used", 2)])
        # A right owner stays, whatever else is wrong.
        better = self.finds({5: {3: 2, 1: 5}}, [("root",), ("used", 0), ("used", 2)])
        self.assertEqual(better.cells[5][3], 2)

    def test_unmade_nodes(self):
        for cell in range(1, 7):
            better = self.finds({9: {cell: 1, 7: 5}}, [("record", 5)])
            self.assertEqual(better.cells[9], [0, 0, 0, 0, 0, 0, 0, 5])
        self.finds({9: {7: MANY}}, [])
        better = self.finds({9: {7: MANY + 1}}, [("record", 5)])
        self.assertEqual(better.cells[9], [0] * 8)
        better = self.finds({9: {1: 1, 7: MANY}}, [("record", 5)])
        self.assertEqual(better.cells[9][7], MANY)

    def test_made_nodes(self):
        lost = [("node", 3), ("entry", 1, 2), ("entry", 2, 0), ("empty", 2, 0), ("size", 1), ("size", 2), ("map", 11),
                ("map", 12), ("map", 13), ("map", 14), ("map", 15), ("used", 1), ("used", 2)]
        for cell, number in ((0, 4), (0, 999999999), (3, 4), (2, 81), (2, 999999999), (7, 0), (7, MANY + 1)):
            better = self.finds({7: {cell: number}}, lost)
            making = 1 if cell != 7 else 0
            self.assertEqual(better.cells[7], [0, 0, 0, 0, 0, 0, 0, making])
            self.assertEqual(better.cells[10][4:6], [0, 0])
            self.assertEqual(better.free_blocks(), [11, 12, 13, 14, 15, 17, 18, 19, 20, 21, 22, 23])
        # 80 cells are no fault.
        self.finds({7: {2: 80}}, [])

    def test_made_folders_and_signs(self):
        sign = [("node", 4), ("entry", 1, 1), ("size", 1), ("map", 16), ("used", 3)]
        for cell, number in ((2, 0), (2, 9), (5, 17), (6, 17), (3, 4)):
            self.finds({8: {cell: number}}, sign)
        folder = [("node", 2), ("entry", 1, 0), ("size", 1), ("links", 3), ("map", 11), ("used", 1)]
        for cell, number in ((6, 17), (3, 4), (7, MANY + 1)):
            self.finds({6: {cell: number}}, folder)
        self.finds({6: {2: 9}}, [("size", 2)])

    def test_kinds_of_nodes(self):
        # The sign, the folder and the file, each in the shape of what it is, but of a kind that there is not.
        for n, number in ((4, 4), (4, 999999999), (2, 5)):
            found = findings(spoilt(done(*DEEDS), {4 + n: {0: number}}))
            self.assertEqual(found[0], ("node", n))

    def test_long_texts_of_signs(self):
        image = done(("sign", "s", 0, "a/b/c/d/e/f/g/h"))
        self.finds({}, [], image=image)
        self.finds({6: {2: 9}}, [("node", 2), ("entry", 1, 0), ("empty", 1, 0), ("size", 1), ("map", 10), ("map", 11),
                                 ("used", 0)], image=image)

    def test_the_last_node(self):
        plan = Plan(24, nodes=2, slots=30)
        image = done(("file", "f", 0), ("write", "f", 0, (1,) * 16), ("write", "f", 16, (1,)), ("cut", "f", 0), plan=plan)
        self.assertEqual(image.cells[1][0], 2)
        self.finds({}, [], image=image)

    def test_makings_count_if_nothing_else_is_said(self):
        image = spoilt(done(*DEEDS), {10: {7: tie(3, 2), 6: 1}})
        self.assertEqual(findings(image), [("entry", 1, 3)])
        self.assertEqual(mended(image)[1], [("entry", 1, 3)])
        self.assertIs(is_clean(spoilt(done(*DEEDS), {10: {5: tie(3, 2)}})), False)

    def test_nodes_are_read_in_order(self):
        self.finds({5: {1: 2}, 8: {2: 0}, 9: {4: 3}},
                   [("root",), ("node", 4), ("record", 5), ("entry", 1, 1), ("size", 1), ("map", 16), ("used", 3)])

    # Stage 2: the places of folders

    def test_places_of_folders(self):
        for number in (9, 24, 999999999, 2, 20, 12):
            # No data block, a free one, a plain one: the folder d loses its block.
            self.finds({6: {4: number}}, [("place", 2, 0), ("size", 2), ("links", 3), ("map", 11), ("used", 1)])
            self.finds({6: {5: number}}, [("place", 2, 1)])

    def test_a_block_claimed_twice(self):
        # The root is read first and has block 11; then d cannot have it. In the root it gives one more name.
        self.finds({5: {5: 11}}, [("place", 2, 0), ("size", 1), ("size", 2), ("used", 0), ("used", 1)])
        self.finds({5: {5: 10}}, [("place", 1, 1)])
        self.finds({6: {5: 11}}, [("place", 2, 1)])
        # The sign is met before d is read.
        self.finds({6: {5: 16}}, [("place", 2, 1)])
        self.finds({8: {4: 11}}, [("place", 2, 0), ("size", 2), ("links", 3), ("map", 16), ("used", 1)],
                   image=spoilt(done(*DEEDS), {8: {2: 1}}))

    def test_an_empty_block_of_a_folder(self):
        self.finds({11: {0: 0, 1: 0}}, [("empty", 2, 0), ("size", 2), ("links", 3), ("map", 11), ("used", 1)])
        image = spoilt(done(*DEEDS), {4: {1: 1}, 6: {5: 17}, 0: {1: 2}})
        self.finds({}, [("empty", 2, 1), ("map", 17), ("used", 1)], image=image)
        # A block that was given up cannot be claimed again: the sign comes behind the second block of the root.
        image = spoilt(done(*DEEDS), {4: {1: 1}, 5: {4: 17, 5: 10}, 8: {4: 17}})
        self.finds({}, [("empty", 1, 0), ("node", 4), ("entry", 1, 5), ("size", 1), ("map", 16), ("map", 17),
                        ("used", 3)], image=image)

    # Stage 2: entries

    def test_codes_of_entries(self):
        for code in (0, 27, 54, 531441, 999999999):
            self.finds({11: {0: code}}, [("entry", 2, 0), ("empty", 2, 0), ("size", 2), ("links", 3), ("map", 11),
                                         ("used", 1)])
        self.finds({11: {0: 1}}, [])
        self.finds({11: {0: 531440}}, [])

    def test_a_name_given_twice(self):
        self.finds({10: {6: D, 7: tie(3)}}, [("entry", 1, 3)])
        self.finds({10: {6: S, 7: tie(3)}}, [("entry", 1, 3)])
        # Only a good entry before it counts.
        self.finds({10: {0: G, 1: tie(5)}}, [("entry", 1, 0), ("node", 2), ("size", 1), ("links", 3), ("map", 11),
                                             ("used", 1)])
        # The entries of both blocks count, and entries are numbered over both.
        image = spoilt(done(*DEEDS), {4: {1: 1}, 5: {5: 17}, 0: {0: 2}, 17: {2: G, 3: tie(3), 4: 1, 5: tie(3)}})
        self.finds({}, [("entry", 1, 5), ("size", 1), ("links", 3)], image=image)

    def test_nodes_of_ties(self):
        for number in (0, 1, tie(0), tie(1), tie(5), tie(6), tie(63), 999999999, tie(5, 0)):
            self.finds({10: {6: 1, 7: number}}, [("entry", 1, 3)])

    def test_makings_of_ties(self):
        for number in (tie(3, 2), 3, tie(3, MANY)):
            self.finds({10: {6: 1, 7: number}}, [("entry", 1, 3)])
            better = self.finds({10: {6: 1, 7: number}}, [("making", 1, 3), ("size", 1), ("links", 3)], numbered=False)
            self.assertEqual(better.cells[10][7], tie(3))
        self.finds({10: {1: tie(2, 9)}}, [("making", 1, 0)], numbered=False)
        self.finds({10: {1: tie(2, 9)}}, [("entry", 1, 0), ("node", 2), ("size", 1), ("links", 3), ("map", 11),
                                          ("used", 1)])
        self.finds({10: {6: 1, 7: tie(5, 2)}}, [("entry", 1, 3)], numbered=False)
        # The greatest making.
        self.finds({7: {7: MANY}, 10: {5: tie(3, MANY)}, 11: {1: tie(3, MANY)}}, [])

    def test_a_folder_has_one_name(self):
        self.finds({10: {6: 1, 7: tie(2)}}, [("entry", 1, 3)])
        self.finds({11: {2: 1, 3: tie(2)}}, [("entry", 2, 1)])
        self.finds({11: {2: 1, 3: tie(2)}}, [("entry", 2, 1)], numbered=False)

    def test_a_file_and_a_sign_have_more_names(self):
        self.finds({10: {6: 1, 7: tie(3)}}, [("size", 1), ("links", 3)])
        self.finds({10: {6: 1, 7: tie(4)}}, [("size", 1), ("links", 4)])
        self.finds({11: {2: 1, 3: tie(4)}}, [("size", 2), ("links", 4)])

    def test_signs_that_cannot_be_read(self):
        wanted = [("node", 4), ("entry", 1, 1), ("size", 1), ("map", 16), ("used", 3)]
        for number in (0, 9, 24, 20, 12, 10, 999999999):
            better = self.finds({8: {4: number}}, wanted)
            self.assertEqual(better.cells[8], [0, 0, 0, 0, 0, 0, 0, 1])
        for cells in ({0: 0}, {1: 0}, {1: 27}, {0: 999999999}):
            self.finds({16: cells}, wanted)
        self.finds({8: {2: 3}}, wanted)
        self.finds({16: {2: 1}, 8: {2: 3}}, [])
        # A sign that cannot be read is unmade, so that its later entries are not good for this alone.
        self.finds({16: {1: 0}, 10: {6: 1, 7: tie(4)}}, [("node", 4), ("entry", 1, 1), ("entry", 1, 3), ("size", 1),
                                                         ("map", 16), ("used", 3)])

    def test_a_sign_is_read_for_an_entry_that_is_good_otherwise(self):
        # The entry has a bad name, so the sign is not read by it; by the next one it is.
        image = spoilt(done(*DEEDS), {16: {1: 0}})
        self.finds({10: {2: 0}}, [("entry", 1, 1), ("node", 4), ("size", 1), ("map", 16), ("used", 3)], image=image)
        self.finds({10: {3: tie(4, 2)}}, [("entry", 1, 1), ("node", 4), ("size", 1), ("map", 16), ("used", 3)],
                   image=image)
        # Its block stays claimed when it is given up: the folder d cannot have it as its second one.
        self.finds({6: {5: 16}}, [("node", 4), ("entry", 1, 1), ("place", 2, 1), ("size", 1), ("map", 16),
                                  ("used", 3)], image=image)

    # Stage 2: places of files

    def test_places_of_files(self):
        for number in (9, 24, 999999999, 3, 20, 16, 11, 13):
            self.finds({7: {4: number}}, ([("place", 3, 1)] if number == 13 else
                                          [("place", 3, 0)]) + [("map", 12), ("used", 2)])
        self.finds({7: {4: 0}}, [("map", 12), ("used", 2)])

    def test_the_block_of_places(self):
        for number in (9, 24, 20, 12, 10, 999999999):
            self.finds({7: {6: number}}, [("place", 3, 10), ("map", 14), ("map", 15), ("used", 2)])
        self.finds({7: {6: 0}}, [("map", 14), ("map", 15), ("used", 2)])
        self.finds({14: {0: 0}}, [("empty", 3, 10), ("map", 14), ("map", 15), ("used", 2)])
        self.finds({14: {0: 13}}, [("place", 3, 2), ("empty", 3, 10), ("map", 14), ("map", 15), ("used", 2)])
        self.finds({14: {0: 14}}, [("place", 3, 2), ("empty", 3, 10), ("map", 14), ("map", 15), ("used", 2)])
        self.finds({14: {0: 0, 7: 15}, 7: {2: 80}}, [])

    def test_places_behind_the_size(self):
        self.finds({7: {2: 16}}, [("beyond", 3, 2), ("empty", 3, 10), ("map", 14), ("map", 15), ("used", 2)])
        self.finds({7: {2: 17}}, [])
        self.finds({7: {2: 0}}, [("beyond", 3, 0), ("beyond", 3, 1), ("beyond", 3, 2), ("empty", 3, 10), ("map", 12),
                                 ("map", 13), ("map", 14), ("map", 15), ("used", 2)])
        self.finds({7: {2: 8}}, [("beyond", 3, 1), ("beyond", 3, 2), ("empty", 3, 10), ("map", 13), ("map", 14),
                                 ("map", 15), ("used", 2)])
        # Such a place makes no claim, so it does not keep others from the block.
        self.finds({7: {2: 16, 4: 15, 5: 13}}, [("beyond", 3, 2), ("empty", 3, 10), ("map", 12), ("map", 14),
                                                ("used", 2)])
        # What lies there is no matter, but without a good claim of the block of places its places are not read.
        self.finds({7: {2: 8, 5: 999999999}}, [("beyond", 3, 1), ("beyond", 3, 2), ("empty", 3, 10), ("map", 13),
                                               ("map", 14), ("map", 15), ("used", 2)])
        self.finds({7: {2: 8, 6: 20}}, [("beyond", 3, 1), ("place", 3, 10), ("map", 13), ("map", 14), ("map", 15),
                                        ("used", 2)])

    def test_places_behind_the_size_of_a_listed_file(self):
        self.finds({7: {2: 8}, 1: {0: 3}}, [])
        self.finds({7: {2: 8}, 1: {7: 3}}, [("list",)])
        self.finds({7: {2: 8, 5: 20}, 1: {0: 3}}, [("place", 3, 1), ("map", 13), ("used", 2)])
        self.finds({7: {2: 18}, 1: {0: 3}}, [("list",)])
        # The list of the image given counts, also where the file does not stay on the list.
        self.finds({7: {2: 8, 5: 20, 6: 20}, 1: {0: 3}}, [("place", 3, 1), ("place", 3, 10), ("list",), ("map", 13),
                                                          ("map", 14), ("map", 15), ("used", 2)])

    # Stage 3

    def test_numbers_on_the_list(self):
        for number in (1, 2, 4, 5, 6, 63, 999999999, 3):
            better = self.finds({1: {0: number}}, [("list",)])
            self.assertEqual(better.cells[1], [0] * 8)
        image = done(*DEEDS, ("cut", "g", 0))
        self.assertEqual(image.cells[1][0], 3)
        for changes in ({0: 0, 1: 3}, {1: 3}, {1: 2}, {0: 2, 1: 3}, {0: 3, 7: 999999999}, {5: 1}):
            better = self.finds({1: changes}, [("list",)], image=image)
            self.assertEqual(better.cells[1], [3, 0, 0, 0, 0, 0, 0, 0])
        # Off the list its block behind the size is no block of it.
        self.finds({1: {0: 0}}, [("beyond", 3, 0), ("map", 12), ("used", 2)], image=image)

    def test_files_without_names_on_the_list(self):
        image = done(*DEEDS, ("open", "g"), ("unlink", "g"), ("unlink", "d/f"))
        self.finds({7: {4: 20}}, [("place", 3, 0), ("map", 12), ("used", 2)], image=image)
        self.finds({7: {1: 1}}, [("links", 3)], image=image)
        better = self.finds({1: {0: 0, 3: 3, 5: 3}}, [("list",)], image=image)
        self.assertEqual(better.cells[1], [3, 0, 0, 0, 0, 0, 0, 0])
        self.finds({1: {0: 0}}, [("node", 3), ("map", 12), ("map", 13), ("map", 14), ("map", 15), ("used", 2)],
                   image=image)

    def test_the_order_of_the_list(self):
        plan = Plan(24, nodes=6, slots=30)
        deeds = [deed for name in "abc" for deed in (("file", name, 0), ("write", name, 0, (1,) * 16),
                                                     ("write", name, 16, (1,)), ("unlink", name))]
        image = done(*deeds, plan=plan)
        self.assertEqual(image.cells[1][:4], [2, 3, 4, 0])
        self.assertEqual(findings(image), [])
        better = self.finds({1: {0: 4, 1: 4, 2: 3, 5: 2}}, [("list",)], image=image)
        self.assertEqual(better.cells[1], [4, 3, 2, 0, 0, 0, 0, 0])

    # Stages 4 and 5

    def test_nodes_without_names(self):
        self.finds({10: {2: 0, 3: 0}}, [("node", 4), ("size", 1), ("map", 16), ("used", 3)])
        better = self.finds({9: {0: 1, 1: 1, 7: 8}}, [("node", 5)])
        self.assertEqual(better.cells[9], [0, 0, 0, 0, 0, 0, 0, 8])
        # Two folders that have each other as children are reached from nowhere.
        image = spoilt(done(*DEEDS), {11: {2: 1, 3: tie(2)}, 10: {0: 0, 1: 0}})
        self.finds({}, [("node", 2), ("size", 1), ("links", 3), ("map", 11), ("used", 1)], image=image)

    def test_links_and_sizes(self):
        for cells, wanted in (({7: {1: 1}}, [("links", 3)]), ({7: {1: 0}}, [("links", 3)]),
                              ({7: {1: 999999999}}, [("links", 3)]), ({6: {1: 2}}, [("links", 2)]),
                              ({8: {1: 0}}, [("links", 4)]), ({5: {2: 2}}, [("size", 1)]),
                              ({6: {2: 0}}, [("size", 2)]), ({6: {1: 3, 2: 3}}, [("links", 2), ("size", 2)]),
                              ({5: {2: 9}, 6: {1: 3, 2: 3}, 8: {1: 7}},
                               [("size", 1), ("links", 2), ("size", 2), ("links", 4)])):
            better = self.finds(cells, wanted)
            self.assertEqual(better.cells, done(*DEEDS).cells)

    # Stage 6

    def test_map(self):
        for block, cell, x in ((2, 0, 0), (2, 7, 7), (3, 1, 9)):
            for number in (0, 2, 7, 999999999):
                self.finds({block: {cell: number}}, [("map", x)])
        for number in (1, 2, 3, 999999999):
            self.finds({4: {7: number}}, [("map", 23)])
        plan = Plan(26, nodes=5, slots=30)
        image = done(*DEEDS, plan=plan)
        self.assertEqual(plan.maps, 4)
        for cell, x in ((2, 26), (7, 31)):
            self.finds({5: {cell: 1}}, [("map", x)], image=image)
        self.finds({5: {2: 1, 1: 1}, 2: {0: 0}}, [("map", 0), ("map", 25), ("map", 26)], image=image)

    def test_the_map_tells_the_kinds(self):
        # Block 12 is logged or free in the map, so place 0 of the file makes no good claim.
        self.finds({3: {4: 1}}, [("place", 3, 0), ("map", 12), ("used", 2)])
        self.finds({3: {4: 0}}, [("place", 3, 0), ("used", 2)])
        self.finds({3: {4: 9}}, [("place", 3, 0), ("map", 12), ("used", 2)])
        # A fixed block is no data block, whatever the map says.
        self.finds({3: {0: 2}, 7: {4: 8}}, [("place", 3, 0), ("map", 8), ("map", 12), ("used", 2)])

    def test_sums(self):
        for owner, number in ((0, 0), (1, 2), (2, 999999999), (3, 0)):
            better = self.finds({0: {owner: number}}, [("used", owner)])
            self.assertEqual(better.cells, done(*DEEDS).cells)
        for owner in range(4):
            self.finds({0: {4 + owner: 64}}, [])
            self.finds({0: {4 + owner: 1}}, [])
            better = self.finds({0: {4 + owner: 65}}, [("limit", owner)])
            self.assertEqual(better.cells[0], [1, 1, 4, 1, 0, 0, 0, 0])
        self.finds({0: {0: 9, 4: 65, 2: 9, 6: 999999999, 7: 99}},
                   [("used", 0), ("limit", 0), ("used", 2), ("limit", 2), ("limit", 3)])

    # All stages

    def test_an_image_of_zeros(self):
        image = Image(small_plan())
        wanted = [("root",)] + [("map", x) for x in range(10)]
        better = self.finds({}, wanted, image=image)
        self.assertEqual(better.cells, Image.fresh(small_plan()).cells)

    def test_random_cells(self):
        chance = random.Random(41)
        for _ in range(150):
            plan = Plan(chance.choice((9, 14, 24, 64)), nodes=chance.choice((2, 3)), slots=100)
            most = chance.choice((2, 4, 30, 70, 999999999))
            rows = [[chance.randrange(most + 1) for _ in range(8)] for _ in range(plan.blocks)]
            image = Image.of_cells(plan, rows)
            for numbered in (True, False):
                self.finds({}, findings(image, numbered=numbered), numbered=numbered, image=image)

    def test_sound_images_spoilt_by_chance(self):
        chance = random.Random(42)
        base = [done(*DEEDS), done(*DEEDS, ("cut", "g", 0)), done(*DEEDS, ("open", "g"), ("unlink", "g"),
                                                                   ("unlink", "d/f"))]
        kinds = set()
        for _ in range(1500):
            image = chance.choice(base)
            changes = {}
            for _ in range(chance.choice((1, 1, 2, 3, 6))):
                x = chance.choice((0, 1, 2, 3, 4, 5, 6, 7, 8, 9, 10, 10, 11, 11, 14, 16))
                number = chance.choice((0, 0, 1, 2, 3, 4, 5, 8, 10, 11, 12, 13, 14, 15, 16, 17, tie(2), tie(3), tie(4),
                                        tie(3, 2), 27, 81, 999999999))
                changes.setdefault(x, {})[chance.randrange(8)] = number
            numbered = chance.random() < 0.5
            found = findings(spoilt(image, changes), numbered=numbered)
            kinds.update(finding[0] for finding in found)
            self.finds(changes, found, numbered=numbered, image=image)
        self.assertEqual(kinds, {"root", "record", "node", "place", "entry", "making", "beyond", "empty", "list",
                                 "links", "size", "map", "used", "limit"})


if __name__ == "__main__":
    unittest.main()
