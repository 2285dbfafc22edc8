"""Points 70 to 73: chronicles."""

import unittest

from helpers import done, fresh, state, wide_plan

from lotsandties.acting import do_deed, do_deeds
from lotsandties.chronicle import Chronicle
from lotsandties.errors import BadValue
from lotsandties.image import Image
from lotsandties.places import place_block


def row(*cells):
    return tuple(cells) + (0,) * (8 - len(cells))


class PastsTest(unittest.TestCase):
    def test_numbers(self):
        image = fresh()
        chronicle = Chronicle(image)
        self.assertEqual(chronicle.safe, 0)
        self.assertEqual([number in chronicle for number in (-1, 0, 1, 2)], [False, True, False, False])
        chronicle = Chronicle(image, number=7)
        self.assertEqual((chronicle.safe, 0 in chronicle, 7 in chronicle), (7, False, True))
        self.assertIsNone(chronicle.note_close(9, image))
        self.assertIsNone(chronicle.note_deed(image))
        self.assertEqual([number in chronicle for number in (7, 8, 9)], [True, False, True])
        self.assertEqual(chronicle.safe, 7)

    def test_told(self):
        chronicle = Chronicle(fresh(), number=7)
        for number, safe in ((7, 7), (5, 7), (9, 9), (8, 9), (-3, 9), (1000, 1000)):
            self.assertIsNone(chronicle.note_told(number))
            self.assertEqual(chronicle.safe, safe)
            self.assertEqual(number in chronicle, number == 7)

    def test_a_past_in_place_of_another(self):
        first, second = fresh(), done(("file", "a", 0))
        chronicle = Chronicle(first)
        chronicle.note_close(1, first)
        self.assertEqual((chronicle.fault(1, first), chronicle.fault(1, second)), ("", "tree"))
        chronicle.note_close(1, second)
        self.assertEqual((chronicle.fault(1, first), chronicle.fault(1, second)), ("tree", ""))
        self.assertEqual((chronicle.fault(0, first), chronicle.fault(0, second)), ("", "tree"))

    def test_images_are_copied(self):
        image = done(("file", "f", 0), ("write", "f", 0, (1,)))
        whole = state(image)
        chronicle = Chronicle(image)
        chronicle.note_close(1, image)
        chronicle.note_deed(image)
        self.assertEqual(state(image), whole)
        x = place_block(image, 2, 0)
        clean = image.twin()
        for block in range(24):
            image.cells[block][0] += 1
        image.holdings[x] = image.stamps[x] = 99
        self.assertEqual([chronicle.fault(number, clean) for number in (0, 1)], ["", ""])
        self.assertEqual(chronicle.fault(1, image), "tree")
        self.assertEqual(chronicle.versions(x, 3), [row(1), row(1)])


class VersionsTest(unittest.TestCase):
    def test_versions_of_a_file(self):
        image = done(("file", "f", 0))
        chronicle = Chronicle(image)
        image, _ = do_deed(image, ("write", "f", 0, (1,)))
        x, holding = place_block(image, 2, 0), image.serial
        self.assertEqual(chronicle.versions(x, holding), [])
        chronicle.note_deed(image)
        self.assertEqual(chronicle.versions(x, holding), [row(1)])
        for deed in (("write", "f", 1, (2,)), ("open", "f"), ("write", "f", 1, (3,)), ("write", "f", 0, (1, 2))):
            image, _ = do_deed(image, deed)
            chronicle.note_deed(image)
        self.assertEqual(chronicle.versions(x, holding), [row(1), row(1, 2), row(1, 3), row(1, 2)])
        self.assertEqual((chronicle.versions(x, holding + 1), chronicle.versions(x + 1, holding)), ([], []))

    def test_only_changed_blocks_get_versions(self):
        image = done(("file", "f", 0), ("write", "f", 0, (1,) * 16))
        chronicle = Chronicle(image)
        image, _ = do_deed(image, ("write", "f", 0, (2,)))
        chronicle.note_deed(image)
        image, _ = do_deed(image, ("write", "f", 0, (2,)))
        chronicle.note_deed(image)
        first, second = place_block(image, 2, 0), place_block(image, 2, 1)
        self.assertEqual(chronicle.versions(first, 3), [(1,) * 8, (2,) + (1,) * 7])
        self.assertEqual(chronicle.versions(second, 3), [(1,) * 8])

    def test_versions_noted_again(self):
        image = done(("file", "f", 0), ("write", "f", 0, (1,)))
        chronicle = Chronicle(image)
        x = place_block(image, 2, 0)
        chronicle.note_deed(image)
        self.assertEqual(chronicle.versions(x, 3), [row(1), row(1)])
        image, _ = do_deed(image, ("open", "f"))
        chronicle.note_deed(image)
        self.assertEqual(chronicle.versions(x, 3), [row(1), row(1)])
        # A block without a version gets one, whatever its stamp.
        other = Chronicle(image)
        self.assertEqual(other.versions(x, 3), [row(1)])
        image.cells[x][0] = 5
        other.note_deed(image)
        self.assertEqual(other.versions(x, 3), [row(1)])

    def test_only_plain_data_blocks(self):
        image = done(("file", "f", 0), ("write", "f", 16, (1,)), ("sign", "s", 0, "f"))
        chronicle = Chronicle(image)
        plain = [x for x in range(24) if image.kind(x) == 2]
        found = [x for x in range(24) if chronicle.versions(x, image.holdings[x])]
        self.assertEqual(found, plain)
        self.assertEqual(len(plain), 1)

    def test_a_block_taken_again(self):
        image = done(("file", "f", 0), ("write", "f", 0, (1,)))
        chronicle = Chronicle(image)
        x = place_block(image, 2, 0)
        for deed in (("cut", "f", 0), ("write", "f", 0, (2,))):
            image, _ = do_deed(image, deed)
            chronicle.note_deed(image)
        self.assertEqual(place_block(image, 2, 0), x)
        self.assertEqual((chronicle.versions(x, 3), chronicle.versions(x, 5)), ([row(1)], [row(2)]))

    def test_a_telling_drops_versions(self):
        image = done(("file", "f", 0), ("write", "f", 0, (1,)), ("file", "g", 0), ("write", "g", 0, (6,)))
        chronicle = Chronicle(image)
        x, y = place_block(image, 2, 0), place_block(image, 3, 0)
        for deed in (("write", "f", 0, (2,)), ("write", "g", 0, (7,)), ("unlink", "g"), ("write", "f", 0, (3,))):
            image, _ = do_deed(image, deed)
            chronicle.note_deed(image)
        self.assertEqual(chronicle.versions(x, 3), [row(1), row(2), row(3)])
        chronicle.note_told(0)
        # The block of g is free now; its versions stay.
        self.assertEqual((chronicle.versions(x, 3), chronicle.versions(y, 5)), ([row(3)], [row(6), row(7)]))
        chronicle.note_told(0)
        self.assertEqual(chronicle.versions(x, 3), [row(3)])

    def test_the_image_looked_at_last_counts(self):
        old = done(("file", "f", 0), ("write", "f", 0, (1,)))
        chronicle = Chronicle(old)
        x = place_block(old, 2, 0)
        new, _ = do_deed(old, ("write", "f", 0, (2,)))
        chronicle.note_deed(new)
        chronicle.note_deed(do_deed(new, ("cut", "f", 0))[0])
        # A past is not looked at.
        chronicle.note_close(1, new)
        chronicle.note_told(1)
        self.assertEqual(chronicle.versions(x, 3), [row(1), row(2)])

    def test_versions_are_new_lists(self):
        image = done(("file", "f", 0), ("write", "f", 0, (1,)))
        chronicle = Chronicle(image)
        chronicle.versions(place_block(image, 2, 0), 3).clear()
        self.assertEqual(chronicle.versions(place_block(image, 2, 0), 3), [row(1)])
        chronicle.versions(20, 1).append(row(1))
        self.assertEqual(chronicle.versions(20, 1), [])


class FaultTest(unittest.TestCase):
    def test_no_past(self):
        chronicle = Chronicle(fresh(), number=3)
        for number in (0, 2, 4):
            self.assertRaises(BadValue, chronicle.fault, number, fresh())
        chronicle.note_told(5)
        self.assertRaises(BadValue, chronicle.fault, 5, fresh())
        self.assertEqual(chronicle.fault(3, fresh()), "told")

    def test_told(self):
        image = done(("file", "f", 0))
        chronicle = Chronicle(fresh())
        chronicle.note_close(1, image)
        chronicle.note_close(2, image)
        chronicle.note_told(1)
        self.assertEqual([chronicle.fault(number, image) for number in (0, 1, 2)], ["told", "", ""])
        # `told` comes before `tree`.
        self.assertEqual([chronicle.fault(number, fresh()) for number in (0, 1, 2)], ["told", "tree", "tree"])

    def test_tree(self):
        image = done(("file", "f", 0), ("write", "f", 16, (1,)), ("sign", "s", 0, "f"))
        chronicle = Chronicle(image)
        for x in range(24):
            found = Image.of_cells(image.plan, image.cells)
            found.cells[x][7] += 1
            fault = {1: "tree", 0: "", 2: "words f 2"}[image.kind(x)]
            self.assertEqual(chronicle.fault(0, found), fault, x)
        self.assertEqual(chronicle.fault(0, Image.of_cells(image.plan, image.cells)), "")

    def test_a_block_that_only_the_image_holds(self):
        past = done(("file", "f", 0))
        chronicle = Chronicle(past)
        found = past.twin()
        found.cells[20][0] = 5
        found.holdings[20] = 1
        self.assertEqual(chronicle.fault(0, found), "")
        found.cells[4][4] = 1
        self.assertEqual(chronicle.fault(0, found), "tree")

    def test_words(self):
        image = done(("file", "f", 0), ("write", "f", 0, (1,)))
        chronicle = Chronicle(image)
        after, _ = do_deed(image, ("write", "f", 0, (2,)))
        chronicle.note_deed(after)
        found = Image.of_cells(image.plan, image.cells)
        x = place_block(image, 2, 0)
        faults = []
        for word in (1, 2, 3):
            found.cells[x][0] = word
            faults.append(chronicle.fault(0, found))
        # Each version of the holding will do, but no other cells.
        self.assertEqual(faults, ["", "", "words f 0"])
        chronicle.note_told(0)
        found.cells[x][0] = 1
        self.assertEqual(chronicle.fault(0, found), "words f 0")

    def test_versions_of_another_holding_do_not_count(self):
        image = done(("file", "f", 0), ("write", "f", 0, (1,)))
        chronicle = Chronicle(image)
        for deed in (("cut", "f", 0), ("write", "f", 0, (2,))):
            image, _ = do_deed(image, deed)
            chronicle.note_deed(image)
        chronicle.note_close(1, image)
        found = Image.of_cells(image.plan, image.cells)
        self.assertEqual(chronicle.fault(1, found), "")
        found.cells[place_block(image, 2, 0)][0] = 1
        self.assertEqual(chronicle.fault(1, found), "words f 0")

    def test_the_first_fault_by_node_and_place(self):
        deeds = [("folder", "z", 0), ("file", "z/y", 0), ("link", "z/y", "z/x"), ("file", "a", 0),
                 ("write", "a", 0, (1,)), ("write", "z/y", 72, (9,)), ("write", "z/y", 8, (2,)),
                 ("write", "z/y", 24, (4,))]
        image = done(*deeds, plan=wide_plan())
        chronicle = Chronicle(image)
        found = image.twin()
        expected = [("words a 0", 4, 0), ("words z/x 9", 3, 9), ("words z/x 3", 3, 3), ("words z/x 1", 3, 1)]
        for fault, n, o in expected:
            found.cells[place_block(image, n, o)][0] = 77
            self.assertEqual(chronicle.fault(0, found), fault)

    def test_files_without_names_and_places_behind_a_size(self):
        image = done(("file", "f", 0), ("write", "f", 0, (1,) * 16), ("open", "f"), ("unlink", "f"))
        chronicle = Chronicle(image)
        found = image.twin()
        found.cells[place_block(image, 2, 1)][0] = 77
        self.assertEqual(chronicle.fault(0, found), "words ? 1")
        image = done(("file", "f", 0), ("write", "f", 0, (1,) * 16), ("write", "f", 16, (1,)), ("cut", "f", 0))
        self.assertEqual((image.cells[1][0], place_block(image, 2, 0) > 0), (2, True))
        chronicle = Chronicle(image)
        found = image.twin()
        found.cells[place_block(image, 2, 0)][7] = 77
        self.assertEqual(chronicle.fault(0, found), "words f 0")

    def test_the_path_is_that_of_the_past(self):
        image = done(("file", "f", 0), ("write", "f", 0, (1,)))
        chronicle = Chronicle(image)
        for deed in (("link", "f", "a"), ("rename", "f", "g")):
            image, _ = do_deed(image, deed)
            chronicle.note_deed(image)
        found = Image.of_cells(image.plan, done(("file", "f", 0), ("write", "f", 0, (5,))).cells)
        self.assertEqual(chronicle.fault(0, found), "words f 0")

    def test_images_that_are_not_sound(self):
        image = fresh()
        for x in range(24):
            image.cells[x] = [(5 * x + c) % 7 for c in range(8)]
        chronicle = Chronicle(image)
        chronicle.note_deed(image)
        chronicle.note_close(1, image)
        chronicle.note_told(0)
        chronicle.note_close(2, fresh())
        self.assertEqual(chronicle.fault(2, image), "tree")
        self.assertEqual(chronicle.fault(2, do_deeds(fresh())[0]), "")


if __name__ == "__main__":
    unittest.main()
