"""Point 97: finishing removals."""

import unittest

from helpers import check_sound, wide_plan
from storing import commit, kept_out, new_store, store_state

from lotsandties.comingup import come_up
from lotsandties.errors import LotClosing
from lotsandties.finishing import finish
from lotsandties.nodes import made_nodes
from lotsandties.playing import play
from lotsandties.reading import read_tree
from lotsandties.sizes import listed


def writes(path, *places):
    return [("write", path, 8 * o, (1,)) for o in places]


class FinishTest(unittest.TestCase):
    def test_nothing_to_do(self):
        for store in (new_store(), commit(new_store(), ("file", "f", 0))):
            whole = store_state(store)
            self.assertEqual(finish(store), 0)
            self.assertEqual(store_state(store), whole)

    def test_a_removal(self):
        store = new_store()
        for deed in (("file", "f", 0), *writes("f", 0, 1, 2, 3, 4), ("unlink", "f")):
            store.do(deed)
        serial = store.image.serial
        self.assertEqual(listed(store.image), [2])
        self.assertEqual(finish(store), 2)
        self.assertEqual((listed(store.image), made_nodes(store.image)), ([], [1]))
        self.assertEqual(store.image.serial, serial + 2)

    def test_the_same_as_the_deeds(self):
        store, other = new_store(), new_store()
        rows = [("do", 0, deed) for deed in (("file", "f", 0), *writes("f", 0, 1, 2, 3, 4), ("cut", "f", 3))]
        play(store, rows)
        self.assertEqual(finish(store), 1)
        play(other, rows + [("do", 0, ("piece", 2))])
        self.assertEqual(store_state(store), store_state(other))

    def test_several_nodes(self):
        store = new_store(plan=wide_plan())
        for name in "abc":
            for deed in (("file", name, 0), *writes(name, 0, 1, 2, 3, 4, 5)):
                store.do(deed)
        store.do(("open", "b"))
        store.do(("open", "c"))
        for deed in (("cut", "c", 1), ("unlink", "b"), ("unlink", "a")):
            store.do(deed)
        self.assertEqual(listed(store.image), [4, 3, 2])
        rows = read_tree(store.image)
        # The open file c has links, b is open and has none; two of the five blocks of c went at once.
        self.assertEqual(finish(store), 2 + 2)
        self.assertEqual((listed(store.image), read_tree(store.image)), ([3], rows))
        check_sound(self, store.image)
        self.assertEqual(finish(store), 0)
        store.do(("shut", 3))
        self.assertEqual(finish(store), 2)
        self.assertEqual((listed(store.image), made_nodes(store.image)), ([], [1, 4]))

    def test_a_lot_is_closing(self):
        store = new_store()
        for deed in (("file", "f", 0), *writes("f", 0, 1, 2), ("unlink", "f")):
            store.do(deed)
        store.close()
        kept_out(self, LotClosing, finish, store, store)
        store = new_store()
        store.close()
        kept_out(self, LotClosing, finish, store, store)

    def test_after_a_stop(self):
        store = commit(new_store(), ("file", "f", 1), *writes("f", 0, 1, 2), ("file", "g", 2), *writes("g", 0, 1),
                       ("open", "g"), ("unlink", "g"), ("unlink", "f"))
        self.assertEqual((listed(store.image), finish(store.__class__.resumed(
            store.book, store.cut(()), store.image, 1, store.window, store.home_ids))), ([3, 2], 1))
        found = come_up(store.cut(()), store.book)
        rows = read_tree(found.image)
        self.assertEqual((listed(found.image), found.image.handles), ([3, 2], {}))
        self.assertEqual(finish(found), 2)
        self.assertEqual((listed(found.image), made_nodes(found.image), read_tree(found.image)), ([], [1], rows))
        # It is done by deeds, so nothing of it is on the disk yet.
        self.assertEqual((found.present, found.number), (2, 1))
        self.assertEqual(listed(come_up(found.cut(()), found.book).image), [3, 2])


if __name__ == "__main__":
    unittest.main()
