"""Points 58 to 64: doing deeds."""

import random
import unittest

from helpers import check_sound, done, fresh, refused, state, used, wide_plan
from making import random_deed

from lotsandties.acting import do_deed, do_deeds
from lotsandties.errors import (
    BadValue,
    BlocksFull,
    FolderNotEmpty,
    IntoItself,
    ListFull,
    NameTaken,
    NodesFull,
    NoSuchName,
    NotAFile,
    NotAFolder,
    NotASign,
    NotOnList,
    NotOpen,
    OverQuota,
    Refused,
    RootFixed,
    TooLong,
    TooManyLinks,
    TooManySigns,
    Unfinished,
)
from lotsandties.folders import folder_entries
from lotsandties.image import Image
from lotsandties.nodes import made_nodes, node_cell
from lotsandties.owners import counted_blocks, limit_of
from lotsandties.places import held_blocks, place_block
from lotsandties.plan import Plan
from lotsandties.room import room_needed
from lotsandties.signs import sign_path
from lotsandties.sizes import listed
from lotsandties.walks import walk
from lotsandties.wordrows import file_words


def answer_of(image, deed):
    return do_deed(image, deed)[1]


def refuses(test, error, image, *deeds):
    for deed in deeds:
        refused(test, error, do_deed, image, deed)


def full_list(*places):
    """The file a/f of owner 1 has blocks at these places; eight nameless open files are on the list."""
    image = done(("folder", "a", 0), ("file", "a/f", 1),
                 *[("write", "a/f", 8 * o, (1,)) for o in places], plan=wide_plan())
    for _ in range(8):
        image, answers = do_deeds(image, ("file", "x", 0), ("open", "x"), ("unlink", "x"))
        assert answers[2] == 0
    return image


class DeedTest(unittest.TestCase):
    def test_a_deed_is_done_on_a_twin(self):
        image = done(("file", "f", 0), ("open", "f"))
        whole = state(image)
        after, answer = do_deed(image, ("write", "f", 0, (7,)), wish=12, barred=[12, 13, 12])
        self.assertEqual(state(image), whole)
        self.assertEqual((after.serial, after.wish, after.barred, answer), (4, 12, (12, 13, 12), 0))
        self.assertEqual(place_block(after, 2, 0), 14)
        self.assertEqual(after.handles, {2: 1})
        before = state(after)
        image.cells[20][0] = 5
        image.holdings[20] = image.stamps[20] = 9
        image.handles[2] = 7
        self.assertEqual(state(after), before)
        self.assertIsNot(after.cells, image.cells)

    def test_nothing_is_shared(self):
        image = done(("file", "f", 0))
        for deed in (("open", "f"), ("limit", 0, 3), ("own", ".", 0), ("rename", "f", "f")):
            after, _ = do_deed(image, deed)
            for x in range(24):
                self.assertIsNot(after.cells[x], image.cells[x])
            self.assertIsNot(after.holdings, image.holdings)
            self.assertIsNot(after.stamps, image.stamps)
            self.assertIsNot(after.handles, image.handles)

    def test_wish_and_barred_by_default(self):
        image = do_deed(done(("file", "f", 0)), ("write", "f", 0, (1,)), wish=20, barred=[5])[0]
        image, _ = do_deed(image, ("write", "f", 8, (1,)))
        self.assertEqual((image.wish, image.barred, place_block(image, 2, 1)), (0, (), 11))

    def test_identities(self):
        image = done(("file", "f", 0), ("write", "f", 0, (7,)), ("write", "f", 1, (8,)), ("write", "f", 1, (8,)))
        x = place_block(image, 2, 0)
        self.assertEqual((image.identity(x), image.serial), ((3, 4), 5))
        self.assertEqual(image.identity(place_block(image, 1, 0)), (2, 2))
        self.assertEqual(image.identity(0), (1, 3))
        image, _ = do_deed(image, ("cut", "f", 0))
        self.assertEqual((image.identity(x), image.kind(x)), ((0, 0), 0))

    def test_a_block_given_and_taken_in_one_deed(self):
        image = done(("file", "f", 0), ("rename", "f", "g"))
        self.assertEqual((place_block(image, 1, 0), image.identity(10)), (10, (3, 3)))

    def test_no_deed(self):
        image = fresh()
        for deed in (["file", "f", 0], ("file", "f"), ("file", "f", 4), ("make", "f", 0), None, (), ("piece", 0),
                     ("sign", "s", 0, "."), ("write", "x", 0, ()), ("shut", 17), ("cut", "f", 1000)):
            refused(self, BadValue, do_deed, image, deed)


class NameDeedsTest(unittest.TestCase):
    def test_answers(self):
        image = fresh()
        deeds = [("file", "f", 1), ("folder", "d", 2), ("sign", "s", 3, "d/f"), ("resign", "s", "f"),
                 ("link", "f", "d/g"), ("rename", "f", "d/f"), ("unlink", "d/f"), ("unlink", "s"), ("unlink", "d/g"),
                 ("rmdir", "d")]
        image, answers = do_deeds(image, *deeds)
        self.assertEqual(answers, [2, 3, 4, 0, 0, 0, 0, 1, 0, 0])
        self.assertEqual((made_nodes(image), image.free_blocks()), ([1], list(range(10, 24))))
        self.assertEqual(image.serial, 11)

    def test_kinds_and_owners(self):
        image = done(("file", "f", 1), ("folder", "d", 2), ("sign", "s", 3, "d/f"))
        self.assertEqual([(node_cell(image, n, 0), node_cell(image, n, 3)) for n in (2, 3, 4)],
                         [(1, 1), (2, 2), (3, 3)])
        self.assertEqual(sign_path(image, 4), "d/f")
        image, _ = do_deed(image, ("resign", "s", "z/z"))
        self.assertEqual(sign_path(image, 4), "z/z")

    def test_an_unlinked_file_is_removed(self):
        for places, answers in (((), [0]), ((0,), [1]), ((0, 1), [2]), ((0, 1, 2), [2, 1]), (range(5), [2, 2, 1])):
            image = done(("file", "f", 1), *[("write", "f", 8 * o, (1,)) for o in places])
            image, answer = do_deed(image, ("unlink", "f"))
            found = [answer]
            while 2 in made_nodes(image):
                self.assertEqual(listed(image), [2])
                check_sound(self, image)
                image, answer = do_deed(image, ("piece", 2))
                found.append(answer)
            self.assertEqual(found, answers)
            self.assertEqual((listed(image), used(image)), ([], [0, 0, 0, 0]))

    def test_a_link_less(self):
        image = done(("file", "f", 1), ("write", "f", 0, (1, 2)), ("link", "f", "g"))
        image, answer = do_deed(image, ("unlink", "f"))
        self.assertEqual((answer, file_words(image, 2), listed(image)), (0, (1, 2), []))

    def test_a_rename_over_a_file(self):
        image = done(("file", "f", 0), ("file", "g", 0), ("write", "g", 0, (1,) * 16), ("write", "g", 16, (1,)))
        image, answer = do_deed(image, ("rename", "f", "g"))
        self.assertEqual((answer, listed(image), walk(image, "g")), (2, [3], 2))
        check_sound(self, image)
        image, answer = do_deed(image, ("piece", 3))
        self.assertEqual((answer, made_nodes(image)), (1, [1, 2]))

    def test_a_rename_over_a_sign_and_over_one_name_of_two(self):
        image = done(("file", "f", 0), ("sign", "s", 0, "x"), ("file", "g", 0), ("link", "g", "h"))
        image, answer = do_deed(image, ("rename", "f", "s"))
        self.assertEqual((answer, made_nodes(image)), (1, [1, 2, 4]))
        image, answer = do_deed(image, ("rename", "s", "g"))
        self.assertEqual((answer, made_nodes(image), node_cell(image, 4, 1)), (0, [1, 2, 4], 1))

    def test_a_rename_over_the_last_name_of_an_open_file(self):
        image = done(("file", "f", 0), ("file", "g", 0), ("write", "g", 0, (1, 2)), ("open", "g"))
        image, answer = do_deed(image, ("rename", "f", "g"))
        self.assertEqual((answer, listed(image), image.handles), (0, [3], {3: 1}))
        self.assertEqual(node_cell(image, 3, 2), 2)
        check_sound(self, image)
        image, answer = do_deed(image, ("shut", 3))
        self.assertEqual((answer, made_nodes(image)), (1, [1, 2]))

    def test_errors(self):
        image = done(("file", "f", 0), ("folder", "d", 0), ("file", "d/g", 0), ("sign", "s", 0, "s"))
        refuses(self, RootFixed, image, ("file", ".", 0), ("folder", ".", 0), ("sign", ".", 0, "a"), ("unlink", "."),
                ("rmdir", "."), ("rename", ".", "a"), ("rename", "f", "."), ("link", "f", "."))
        refuses(self, NameTaken, image, ("file", "d", 0), ("folder", "f", 0), ("sign", "s", 0, "a"),
                ("link", "f", "s"), ("rename", "f", "d"))
        refuses(self, NoSuchName, image, ("resign", "x", "a"), ("link", "x", "y"), ("unlink", "x"), ("rmdir", "x"),
                ("rename", "x", "y"), ("file", "x/y", 0), ("write", "x", 0, (1,)), ("cut", "x", 0), ("own", "x", 1),
                ("open", "x"))
        refuses(self, NotAFile, image, ("unlink", "d"), ("link", "d", "e"), ("write", "d", 0, (1,)),
                ("cut", ".", 0), ("open", "d"))
        refuses(self, NotAFolder, image, ("rmdir", "f"), ("file", "f/x", 0), ("own", "f/x", 0))
        refuses(self, NotASign, image, ("resign", "f", "a"), ("resign", ".", "a"))
        refuses(self, FolderNotEmpty, image, ("rmdir", "d"))
        refuses(self, IntoItself, image, ("rename", "d", "d/d"))
        refuses(self, TooManySigns, image, ("open", "s"), ("file", "s/x", 0), ("own", "s", 1))
        self.assertEqual(answer_of(image, ("resign", "s", "f")), 0)

    def test_nodes_and_links(self):
        image = done(("file", "a", 0), ("file", "b", 0), ("file", "c", 0), ("file", "d", 0))
        refuses(self, NodesFull, image, ("file", "e", 0), ("sign", "e", 0, "a"), ("folder", "e", 0))
        image.cells[image.plan.node_block(2)][1] = 60
        refuses(self, TooManyLinks, image, ("link", "a", "e"))


class WordDeedsTest(unittest.TestCase):
    def test_write(self):
        image = done(("file", "f", 0), ("sign", "s", 0, "f"))
        image, answers = do_deeds(image, ("write", "s", 2, (7, 8)), ("write", "f", 3, (9,)))
        self.assertEqual((answers, file_words(image, 2)), ([0, 0], (0, 0, 7, 9)))

    def test_write_errors(self):
        image = done(("file", "f", 0), ("folder", "d", 0))
        refuses(self, TooLong, image, ("write", "f", 80, (1,)), ("write", "f", 999, (1,)),
                ("write", "f", 79, (1, 2)))
        image = do_deed(image, ("limit", 0, 1))[0]
        refuses(self, OverQuota, image, ("write", "f", 0, (1,)))
        refuses(self, TooLong, image, ("write", "f", 80, (1,)))

    def test_barred_blocks(self):
        image = done(("file", "f", 0))
        barred = list(range(10, 24))
        refused(self, BlocksFull, do_deed, image, ("write", "f", 0, (1,)), barred=barred)
        refused(self, BlocksFull, do_deeds, image, ("write", "f", 0, (1,)), barred=tuple(barred))
        # The block of places and entries are logged blocks.
        after, _ = do_deed(image, ("write", "f", 16, (1,)), barred=barred[:-1], wish=15)
        self.assertEqual(held_blocks(after, 2), [23, 15])
        after, _ = do_deed(image, ("sign", "s", 0, "f"), barred=barred)
        self.assertEqual(place_block(after, 3, 0), 11)

    def test_cut(self):
        image = done(("file", "f", 0), ("write", "f", 0, tuple(range(1, 17))), ("write", "f", 16, (1,) * 16))
        after, answer = do_deed(image, ("cut", "f", 16))
        self.assertEqual((answer, file_words(after, 2), listed(after)), (2, tuple(range(1, 17)), []))
        after, answer = do_deed(image, ("cut", "f", 9))
        self.assertEqual((answer, file_words(after, 2), place_block(after, 2, 1) > 0), (2, tuple(range(1, 10)), True))
        after, answer = do_deed(image, ("cut", "f", 8))
        self.assertEqual((answer, listed(after)), (2, [2]))
        check_sound(self, after)
        refuses(self, Unfinished, after, ("cut", "f", 8), ("cut", "f", 999), ("cut", "f", 0), ("write", "f", 0, (1,)),
                ("write", "f", 80, (1,)))
        after, answer = do_deed(after, ("piece", 2))
        self.assertEqual((answer, listed(after), file_words(after, 2)), (1, [], tuple(range(1, 9))))
        check_sound(self, after)

    def test_cut_to_more(self):
        image = done(("file", "f", 0), ("write", "f", 0, (1, 2, 3)), ("cut", "f", 2), ("cut", "f", 80))
        self.assertEqual(file_words(image, 2), (1, 2) + (0,) * 78)
        self.assertEqual(held_blocks(image, 2), [11])
        self.assertEqual(answer_of(image, ("cut", "f", 80)), 0)
        refuses(self, TooLong, image, ("cut", "f", 81), ("cut", "f", 999))
        self.assertEqual(answer_of(image, ("cut", "f", 0)), 1)

    def test_cut_errors(self):
        image = done(("file", "f", 0), ("folder", "d", 0))
        refuses(self, NotAFile, image, ("cut", "d", 999))
        refuses(self, NoSuchName, image, ("cut", "x", 999))

    def test_cut_with_a_full_list(self):
        image = full_list(0, 1, 2)
        self.assertEqual(len(listed(image)), 8)
        refuses(self, ListFull, image, ("cut", "a/f", 0), ("unlink", "a/f"))
        self.assertEqual(answer_of(image, ("cut", "a/f", 1)), 2)
        self.assertEqual(answer_of(full_list(0, 1), ("unlink", "a/f")), 2)
        image, answers = do_deeds(image, ("shut", 4), ("cut", "a/f", 0))
        self.assertEqual((answers, listed(image)), ([0, 2], [5, 6, 7, 8, 9, 10, 11, 3]))

    def test_an_open_file_unlinked_with_a_full_list(self):
        image = do_deed(full_list(), ("open", "a/f"))[0]
        refuses(self, ListFull, image, ("unlink", "a/f"))
        image = do_deed(image, ("file", "a/g", 0))[0]
        refuses(self, ListFull, image, ("rename", "a/g", "a/f"))
        self.assertEqual(do_deeds(image, ("shut", 3), ("unlink", "a/f"))[1], [0, 0])


class OwnerDeedsTest(unittest.TestCase):
    def test_own(self):
        image = done(("file", "f", 0), ("sign", "s", 0, "f"), ("write", "f", 0, (1,)))
        image, answer = do_deed(image, ("own", "s", 2))
        self.assertEqual((answer, used(image), node_cell(image, 3, 3)), (0, [2, 0, 1, 0], 0))
        image, _ = do_deed(image, ("own", ".", 3))
        self.assertEqual(used(image), [1, 0, 1, 1])
        check_sound(self, image)

    def test_own_over_a_limit(self):
        image = done(("file", "f", 0), ("write", "f", 0, (1,) * 16), ("limit", 1, 1))
        refuses(self, OverQuota, image, ("own", "f", 1))
        refuses(self, NoSuchName, image, ("own", "x", 1))
        self.assertEqual(answer_of(image, ("own", "f", 0)), 0)

    def test_limit(self):
        image, answer = do_deed(fresh(), ("limit", 2, 64))
        self.assertEqual((answer, limit_of(image, 2)), (0, 64))
        image, _ = do_deed(image, ("limit", 2, 0))
        self.assertEqual(limit_of(image, 2), 0)

    def test_limits_reached_and_below_what_is_used(self):
        image = done(("file", "f", 1), ("write", "f", 0, (1,) * 16), ("limit", 1, 2))
        refuses(self, OverQuota, image, ("write", "f", 16, (1,)))
        image = do_deed(image, ("limit", 1, 1))[0]
        refuses(self, OverQuota, image, ("write", "f", 16, (1,)))
        self.assertEqual(answer_of(image, ("write", "f", 0, (2,))), 0)
        image = do_deeds(image, ("cut", "f", 0), ("write", "f", 0, (1,)))[0]
        self.assertEqual(used(image), [1, 1, 0, 0])


class OpenTest(unittest.TestCase):
    def test_open_and_shut(self):
        image = done(("file", "f", 0), ("sign", "s", 0, "f"))
        image, answers = do_deeds(image, ("open", "f"), ("open", "s"))
        self.assertEqual((answers, image.handles), ([2, 2], {2: 2}))
        image, answers = do_deeds(image, ("shut", 2), ("shut", 2))
        self.assertEqual((answers, image.handles), ([0, 0], {}))
        refuses(self, NotOpen, image, ("shut", 2), ("shut", 1), ("shut", 16))

    def test_an_open_file_without_links(self):
        image = done(("file", "f", 0), ("write", "f", 0, (1,) * 16), ("write", "f", 16, (1,)), ("open", "f"),
                     ("open", "f"))
        image, answer = do_deed(image, ("unlink", "f"))
        self.assertEqual((answer, listed(image), len(file_words(image, 2))), (0, [2], 17))
        refuses(self, NotOnList, image, ("piece", 2))
        image, answers = do_deeds(image, ("shut", 2), ("shut", 2))
        self.assertEqual((answers, listed(image), image.handles), ([0, 2], [2], {}))
        image, answer = do_deed(image, ("piece", 2))
        self.assertEqual((answer, made_nodes(image)), (1, [1]))

    def test_the_example_of_the_document(self):
        image = done(("file", "f", 1))
        deed = ("write", "f", 14, (7, 8, 9))
        self.assertEqual(room_needed(image, deed), (1, 2))
        image, answers = do_deeds(image, deed, ("open", "f"), ("unlink", "f"))
        self.assertEqual((answers, listed(image)), ([0, 2, 0], [2]))
        refuses(self, NotOnList, image, ("piece", 2))
        image, answer = do_deed(image, ("shut", 2))
        self.assertEqual((answer, made_nodes(image)), (2, [1]))

    def test_piece(self):
        image = done(("file", "f", 0))
        refuses(self, NotOnList, image, ("piece", 2), ("piece", 1), ("piece", 5), ("piece", 16))


class DeedsTest(unittest.TestCase):
    def test_no_deed(self):
        image = done(("file", "f", 0))
        after, answers = do_deeds(image)
        self.assertEqual((state(after), answers), (state(image), []))
        self.assertIsNot(after.cells[5], image.cells[5])
        after, answers = do_deeds(image, wish=5, barred=[7])
        self.assertEqual(state(after), state(image))

    def test_three_deeds(self):
        image = fresh()
        whole = state(image)
        after, answers = do_deeds(image, ("file", "f", 0), ("open", "f"), ("write", "f", 0, (1,)), wish=20,
                                  barred=[21])
        self.assertEqual((answers, after.serial, after.wish, after.barred), ([2, 2, 0], 4, 20, (21,)))
        self.assertEqual((place_block(after, 1, 0), place_block(after, 2, 0)), (20, 22))
        self.assertEqual(state(image), whole)
        one, answer = do_deed(image, ("file", "f", 0), wish=20, barred=[21])
        two, answers = do_deeds(image, ("file", "f", 0), wish=20, barred=[21])
        self.assertEqual((state(one), [answer]), (state(two), answers))

    def test_a_refused_one_in_the_middle(self):
        image = fresh()
        refused(self, NameTaken, do_deeds, image, ("file", "f", 0), ("file", "f", 0), ("unlink", "g"))
        refused(self, NameTaken, do_deeds, image, ("file", "f", 0), ("file", "f", 0), ("no", "deed"))
        refused(self, BadValue, do_deeds, image, ("file", "f", 0), ("no", "deed"), ("unlink", "g"))
        refused(self, NoSuchName, do_deeds, image, ("unlink", "g"), ("no", "deed"))


class ManyDeedsTest(unittest.TestCase):
    """Point 64: after any deeds the blocks, the list and the links agree; a refused deed changes nothing."""

    def test_many_deeds(self):
        counts = {}
        for seed in range(120):
            chance = random.Random(seed)
            image = Image.fresh(chance.choice((Plan(16, nodes=5, slots=20), Plan(24, nodes=8, slots=30), wide_plan())))
            for _ in range(100):
                deed = random_deed(chance)
                whole = state(image)
                try:
                    after, answer = do_deed(image, deed, wish=chance.randrange(64))
                except Refused as error:
                    counts[type(error).__name__] = counts.get(type(error).__name__, 0) + 1
                    self.assertEqual(state(image), whole)
                    continue
                self.assertEqual(state(image), whole)
                check_sound(self, after)
                self.assertEqual([counted_blocks(after, owner) for owner in range(4)], used(after))
                self.assertEqual(after.serial, image.serial + 1)
                self.check_identities(image, after)
                image = after
                counts[deed[0]] = counts.get(deed[0], 0) + 1
        for name in ("file folder sign resign link unlink rmdir rename write cut own limit open shut piece NoSuchName "
                     "NameTaken NotAFolder NotAFile NotASign FolderNotEmpty NodesFull BlocksFull OverQuota TooLong "
                     "TooManySigns IntoItself Unfinished RootFixed NotOnList NotOpen").split():
            self.assertGreater(counts.get(name, 0), 1, name)

    def check_identities(self, image, after):
        for x in range(image.plan.blocks):
            if after.kind(x) and (after.holdings[x] == after.serial or after.cells[x] != image.cells[x]):
                self.assertEqual(after.stamps[x], after.serial)
            elif after.kind(x):
                self.assertEqual(after.identity(x), image.identity(x))
            if after.kind(x) != image.kind(x):
                self.assertEqual(after.holdings[x], after.serial if after.kind(x) else 0)

    def test_names_stay(self):
        image = done(("folder", "d", 0), ("file", "d/f", 0), ("rename", "d", "e"))
        self.assertEqual(folder_entries(image, 1), [("e", 2)])


if __name__ == "__main__":
    unittest.main()
