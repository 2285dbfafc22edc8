import random
import unittest

from helpers import disk_state, done, small_plan, state
from making import random_deed, random_store
from storing import RIGHT_BOOKS, commit, new_store, without, write_home

from lotsandties.acting import do_deed
from lotsandties.allcuts import cut_stores
from lotsandties.books import Book
from lotsandties.carrying import carried
from lotsandties.checking import home_image, is_clean
from lotsandties.disk import Disk
from lotsandties.errors import BlocksFull, NodesFull, Refused
from lotsandties.findings import findings
from lotsandties.finishing import finish
from lotsandties.image import Image
from lotsandties.mending import losses, mended
from lotsandties.plan import Plan
from lotsandties.reading import read_tree


class MendingTest(unittest.TestCase):
    def test_losses(self):
        found = [("root",), ("node", 3), ("place", 2, 0), ("record", 4), ("entry", 1, 2), ("making", 1, 1),
                 ("empty", 2, 0), ("beyond", 3, 1), ("list",), ("node", 5), ("links", 2), ("size", 1), ("map", 3),
                 ("used", 0), ("limit", 0)]
        kept = list(found)
        self.assertEqual(list(losses(found)), [("node", 3), ("place", 2, 0), ("entry", 1, 2), ("node", 5)])
        self.assertEqual(found, kept)
        self.assertEqual(list(losses([])), [])
        self.assertEqual(list(losses(tuple(found[-4:]))), [])

    def test_mended_image(self):
        image = done(("file", "f", 0), ("write", "f", 0, (1, 2)), ("open", "f"))
        image.cells[2][3] = 0
        better, lost = mended(image)
        self.assertEqual(lost, [])
        self.assertEqual(better.cells, done(("file", "f", 0), ("write", "f", 0, (1, 2))).cells)
        self.assertEqual((better.serial, better.handles, better.wish, better.barred), (1, {}, 0, ()))
        self.assertEqual(better.identity(11), (1, 1))
        self.assertEqual(better.identity(12), (0, 0))
        self.assertEqual(better.plan.text(), image.plan.text())
        # The two share nothing.
        better.cells[5][2] = 7
        self.assertEqual(image.cells[5][2], 1)

    def test_returned_lists_are_new(self):
        image = done()
        image.cells[5][2] = 3
        findings(image).clear()
        self.assertEqual(findings(image), [("size", 1)])
        mended(image)[1].append(1)
        self.assertEqual(mended(image)[1], [])

    def test_home_image(self):
        store = commit(new_store(), ("file", "f", 1), ("write", "f", 0, (4, 5)))
        self.assertEqual(read_tree(home_image(store.disk, store.plan)), read_tree(done()))
        write_home(store)
        image = home_image(store.disk, store.plan)
        self.assertTrue(is_clean(image))
        self.assertEqual(read_tree(image), read_tree(store.image))
        self.assertEqual((image.serial, image.identity(0), image.identity(23)), (1, (1, 1), (0, 0)))
        whole = disk_state(store.disk)
        image.cells[5][2] = 9
        self.assertEqual(disk_state(store.disk), whole)
        # Free data blocks become zeros, whatever lies at their homes; writes that are pending do not count.
        disk = Disk.of_image(Image.fresh(small_plan()))
        disk.issue(("home", 20), (1,) * 8)
        disk.barrier()
        disk.issue(("home", 5), (0,) * 8)
        self.assertEqual(state(home_image(disk, disk.plan)), state(Image.fresh(disk.plan)))

    def test_is_clean(self):
        image = done(("folder", "d", 0))
        whole = state(image)
        self.assertIs(is_clean(image), True)
        self.assertEqual(state(image), whole)
        image.cells[6][1] = 2
        self.assertIs(is_clean(image), False)


class SoundImagesTest(unittest.TestCase):
    def test_deeds_by_chance(self):
        chance = random.Random(51)
        for _ in range(40):
            plan = Plan(chance.choice((17, 20, 40)), nodes=chance.choice((4, 6, 9)), slots=60)
            image = Image.fresh(plan)
            for _ in range(80):
                try:
                    image = do_deed(image, random_deed(chance), wish=chance.randrange(64))[0]
                except Refused:
                    continue
                self.assertEqual(findings(image), [])
            better, lost = mended(image)
            self.assertEqual((better.cells, lost), (image.cells, []))

    def test_carried_images(self):
        chance = random.Random(52)
        count = 0
        for _ in range(60):
            image = Image.fresh(Plan(40, nodes=9, slots=60))
            for _ in range(60):
                try:
                    image = do_deed(image, random_deed(chance), wish=chance.randrange(64))[0]
                except Refused:
                    pass
            try:
                found = carried(image, Plan(chance.choice((20, 30, 64)), nodes=chance.choice((5, 8, 12)), slots=80))
            except (NodesFull, BlocksFull):
                continue
            count += 1
            self.assertEqual(findings(found), [])
        self.assertGreater(count, 20)

    def test_what_comes_up_under_right_books(self):
        chance = random.Random(53)
        for text in RIGHT_BOOKS:
            for _ in range(4):
                store, _ = random_store(chance, Book.read(text), 60)
                while len(store.disk.pending()) > 8:
                    store.sure(store.disk.pending()[0][0])
                for _, found in cut_stores(store):
                    self.assertEqual(findings(found.image), [])
                    finish(found)
                    self.assertEqual(findings(found.image), [])
                    self.assertEqual(found.image.cells[1], [0] * 8)

    def test_what_comes_up_under_a_wrong_book_can_be_mended(self):
        chance = random.Random(54)
        spoilt = 0
        for rule in ("copies", "mark", "room", "words"):
            for _ in range(10):
                store, _ = random_store(chance, without(rule), 60)
                while len(store.disk.pending()) > 8:
                    store.sure(store.disk.pending()[0][0])
                for _, found in cut_stores(store):
                    spoilt += not is_clean(found.image)
                    self.assertTrue(is_clean(mended(found.image)[0]))
        self.assertGreater(spoilt, 0)


if __name__ == "__main__":
    unittest.main()
