import random
import unittest

from helpers import state

from lotsandties.errors import FolderFull, NameTaken, NodesFull, NoSuchName, NotLet
from lotsandties.findings import findings
from lotsandties.image import Image
from lotsandties.mending import mended
from lotsandties.plan import Plan
from lotsandties.reading import read_tree
from lotsandties.tiebooks import TieBook
from lotsandties.tietable import tie_after, tie_bad, tie_start
from lotsandties.tiestore import TieStore

NONE = TieBook(())
FULL = TieBook.full()
# Data blocks are 10 to 23; the root's names are in the blocks 10 and 11, the nodes in 5 to 9.
PLAN = Plan(24, nodes=5, slots=30)


def without(*rules):
    return FULL - TieBook(rules)


def only(*rules):
    return TieBook(rules)


def whole(store):
    return (store.plan.text(), store.book.text(), state(store.cache), [list(row) for row in store.home],
            dict(store.told_makings))


def out(store):
    """Bring all nodes and then all entries to the disk."""
    for n in range(1, store.plan.nodes + 1):
        store.out_node(n)
    for j in range(8):
        store.out_entry(j)
    return store


class TieStoreTest(unittest.TestCase):
    def kept_out(self, error, store, step, *arguments, **more):
        before = whole(store)
        with self.assertRaises(error) as caught:
            step(*arguments, **more)
        self.assertIs(type(caught.exception), error)
        self.assertEqual(whole(store), before)
        return caught.exception

    def not_let(self, rule, store, step, *arguments):
        self.assertEqual(self.kept_out(NotLet, store, step, *arguments).rule, rule)

    def entry(self, cells, j):
        row = cells[10 + j // 4]
        return tuple(row[2 * (j % 4):2 * (j % 4) + 2])

    def test_a_new_store(self):
        store = TieStore(PLAN, FULL)
        self.assertEqual(TieStore.ENTRIES, 8)
        self.assertIs(store.plan, PLAN)
        self.assertIs(store.book, FULL)
        fresh = Image.fresh(PLAN)
        fresh.cells[3][2:4] = [1, 1]
        fresh.cells[5][4:6] = [10, 11]
        fresh.cells[0][0] = 2
        self.assertEqual(store.cache.cells, fresh.cells)
        self.assertEqual((store.cache.kind(10), store.cache.kind(11), store.cache.serial), (1, 1, 1))
        self.assertEqual(store.home, fresh.cells)
        self.assertEqual(store.told_makings, {})
        self.assertEqual(store.tied_names(), [])
        self.assertNotIn("a", store)
        self.assertTrue(store.agrees)
        self.assertEqual(store.faults(), [])
        small = TieStore(Plan(8, nodes=3, slots=9), NONE)
        self.assertEqual(small.cache.cells[3][4:6], [6, 7])

    def test_make(self):
        store = TieStore(PLAN, FULL)
        self.assertEqual(store.make("a", 1), 2)
        self.assertEqual(store.make("zz", 3, at=5), 3)
        self.assertEqual(store.cache.cells[6], [1, 1, 0, 1, 0, 0, 0, 1])
        self.assertEqual(store.cache.cells[7], [1, 1, 0, 3, 0, 0, 0, 1])
        self.assertEqual(self.entry(store.cache.cells, 0), (1, 64 + 2))
        self.assertEqual(self.entry(store.cache.cells, 5), (26 * 27 + 26, 64 + 3))
        self.assertEqual(store.tied_names(), [("a", 2), ("zz", 3)])
        self.assertEqual(store.cache.cells[5][2], 2)
        self.assertEqual(store.home, TieStore(PLAN, FULL).home)
        self.assertIn("a", store)
        self.assertIn("zz", store)
        for name in ("z", "b", "?", ""):
            self.assertNotIn(name, store)

    def test_free_entries(self):
        for at in range(8):
            store = TieStore(Plan(24, nodes=12, slots=30), NONE)
            wanted = list(range(at, 8)) + list(range(at))
            for k, j in enumerate(wanted):
                n = store.make("abcdefgh"[k], 0, at=at)
                self.assertEqual(self.entry_of(store, j), n)
                self.assertEqual(store.cache.cells[store.plan.node_block(1)][2], k + 1)
            self.kept_out(FolderFull, store, store.make, "x", 0, at=at)
            self.kept_out(FolderFull, store, store.link, "a", "x", at=at)
            self.kept_out(FolderFull, store, store.move, "a", "x", at=at)
            self.assertEqual(store.drop("c"), wanted[2])
            self.assertEqual(store.link("a", "x", at=at), wanted[2])

    def entry_of(self, store, j):
        first = store.plan.first_data
        return store.cache.cells[first + j // 4][2 * (j % 4) + 1] % 64

    def test_nodes(self):
        store = TieStore(PLAN, NONE)
        self.assertEqual([store.make(name, 0) for name in "abcd"], [2, 3, 4, 5])
        self.kept_out(NodesFull, store, store.make, "e", 0)
        store.drop("c")
        self.assertEqual(store.cache.cells[8], [0, 0, 0, 0, 0, 0, 0, 1])
        self.assertEqual(store.make("e", 2), 4)
        self.assertEqual(store.cache.cells[8], [1, 1, 0, 2, 0, 0, 0, 2])
        self.assertEqual(self.entry(store.cache.cells, 2), (5, 2 * 64 + 4))

    def test_the_rule_after(self):
        for book in (only("after"), FULL):
            store = TieStore(PLAN, book)
            store.make("a", 0)
            store.out_node(2)
            store.out_entry(0)
            store.drop("a")
            # An entry of the disk ties node 2, so it is not made again, also under another name.
            self.assertEqual(store.make("b", 0, at=1), 3)
            store.drop("b")
            store.out_node(2)
            self.assertEqual(store.make("b", 0, at=1), 3)
            store.drop("b")
            store.out_entry(0)
            self.assertEqual(store.make("b", 0, at=1), 2)
        store = TieStore(PLAN, without("after"))
        store.make("a", 0)
        out(store)
        store.drop("a")
        self.assertEqual(store.make("b", 0, at=1), 2)
        store = TieStore(Plan(9, nodes=2, slots=10), FULL)
        store.make("a", 0)
        out(store)
        store.drop("a")
        self.kept_out(NodesFull, store, store.make, "b", 0)

    def test_names_that_are_taken(self):
        store = TieStore(PLAN, NONE)
        store.make("a", 0)
        store.make("b", 0)
        for name in ("a", "b"):
            self.kept_out(NameTaken, store, store.make, name, 0)
            self.kept_out(NameTaken, store, store.link, "a", name)
            self.kept_out(NameTaken, store, store.move, "a", name)
        out(store)
        self.kept_out(NameTaken, store, store.make, "a", 0)
        store.drop("a")
        # On the disk alone.
        self.assertNotIn("a", store)
        self.kept_out(NameTaken, store, store.make, "a", 0)
        self.kept_out(NameTaken, store, store.link, "b", "a")
        self.kept_out(NameTaken, store, store.move, "b", "a")
        self.kept_out(NoSuchName, store, store.drop, "a")
        self.kept_out(NoSuchName, store, store.link, "a", "b")
        store.out_entry(0)
        self.assertEqual(store.make("a", 0, at=0), 2)

    def test_the_order_of_errors(self):
        store = TieStore(Plan(24, nodes=2, slots=30), NONE)
        store.make("a", 0)
        self.kept_out(NameTaken, store, store.make, "a", 0)
        self.kept_out(NodesFull, store, store.make, "b", 0)
        for name in "bcdefgh":
            store.link("a", name)
        self.kept_out(NameTaken, store, store.make, "a", 0)
        self.kept_out(FolderFull, store, store.make, "x", 0)
        for step in (store.link, store.move):
            self.kept_out(NoSuchName, store, step, "x", "a")
            self.kept_out(NoSuchName, store, step, "x", "x")
            self.kept_out(NameTaken, store, step, "a", "b")
            self.kept_out(FolderFull, store, step, "a", "x")

    def test_link(self):
        store = TieStore(PLAN, FULL)
        store.make("a", 0)
        self.assertEqual(store.link("a", "b"), 1)
        self.assertEqual(store.link("b", "c", at=6), 6)
        self.assertEqual(store.tied_names(), [("a", 2), ("b", 2), ("c", 2)])
        self.assertEqual(store.cache.cells[6], [1, 3, 0, 0, 0, 0, 0, 1])
        self.assertEqual(store.cache.cells[5][2], 3)
        self.assertEqual(self.entry(store.cache.cells, 6), (3, 66))

    def test_drop(self):
        store = TieStore(PLAN, FULL)
        store.make("a", 3)
        store.link("a", "b", at=4)
        out(store)
        store.told()
        self.assertEqual(store.told_makings, {2: 1})
        self.assertEqual(store.drop("a"), 0)
        self.assertEqual(self.entry(store.cache.cells, 0), (0, 0))
        self.assertEqual(store.cache.cells[6], [1, 1, 0, 3, 0, 0, 0, 1])
        self.assertEqual(store.cache.cells[5][2], 1)
        self.assertEqual(store.told_makings, {2: 1})
        self.assertEqual(store.drop("b"), 4)
        self.assertEqual(store.cache.cells[6], [0, 0, 0, 0, 0, 0, 0, 1])
        self.assertEqual(store.cache.cells[5][2], 0)
        self.assertEqual(store.told_makings, {})
        self.assertEqual(store.cache.cells[5][4:6], [10, 11])
        self.kept_out(NoSuchName, store, store.drop, "a")
        self.kept_out(NoSuchName, store, store.drop, "x")

    def test_move(self):
        store = TieStore(PLAN, FULL)
        store.make("a", 0)
        store.make("b", 0)
        # The free entry is chosen while the name has its own.
        self.assertEqual(store.move("a", "c", at=0), 2)
        self.assertEqual(self.entry(store.cache.cells, 0), (0, 0))
        self.assertEqual(self.entry(store.cache.cells, 2), (3, 66))
        self.assertEqual(store.cache.cells[6][1], 1)
        self.assertEqual(store.cache.cells[5][2], 2)
        self.assertEqual(store.move("c", "d"), 0)
        self.assertEqual(store.tied_names(), [("d", 2), ("b", 3)])
        for name in "efghij":
            store.link("d", name)
        self.assertEqual(len(store.tied_names()), 8)
        self.kept_out(FolderFull, store, store.move, "d", "x")

    def test_out_node(self):
        store = TieStore(PLAN, FULL)
        store.make("a", 2)
        store.out_node(2)
        self.assertEqual(store.home[6], [1, 1, 0, 2, 0, 0, 0, 1])
        self.assertEqual(store.home[5][2], 0)
        store.out_node(1)
        self.assertEqual(store.home[5][2], 1)
        store.link("a", "b")
        self.assertEqual(store.home[6][1], 1)
        store.drop("a")
        store.drop("b")
        store.out_node(2)
        self.assertEqual(store.home[6], [0, 0, 0, 0, 0, 0, 0, 1])

    def test_the_rule_first(self):
        for book in (only("first"), FULL):
            store = TieStore(PLAN, book)
            store.make("a", 0)
            self.not_let("first", store, store.out_entry, 0)
            store.out_entry(1)
            store.out_node(2)
            store.out_entry(0)
            self.assertEqual(self.entry(store.home, 0), (1, 66))
            store.drop("a")
            store.out_entry(0)
            self.assertEqual(self.entry(store.home, 0), (0, 0))
            # The disk has another making of the node.
            store.make("b", 0, at=7)
            self.not_let("first", store, store.out_entry, 7)
            store.out_node(2)
            store.out_entry(7)
        store = TieStore(PLAN, without("first"))
        store.make("a", 0)
        store.out_entry(0)
        self.assertEqual(self.entry(store.home, 0), (1, 66))

    def test_the_rule_keep(self):
        for book in (only("keep"), FULL):
            store = out(self.named_store(book))
            store.move("a", "b", at=5)
            self.not_let("keep", store, store.out_entry, 0)
            store.out_entry(5)
            store.out_entry(0)
            self.assertEqual((self.entry(store.home, 0), self.entry(store.home, 5)), ((0, 0), (2, 66)))
            # The cache does not back the tie any more, so the entry may go.
            store.drop("b")
            store.out_entry(5)
        store = out(self.named_store(without("keep")))
        store.move("a", "b", at=5)
        store.out_entry(0)
        self.assertEqual(self.entry(store.home, 0), (0, 0))

    def named_store(self, book):
        store = TieStore(PLAN, book)
        store.make("a", 0)
        return store

    def test_the_rule_keep_and_other_entries(self):
        # Another entry has the tie on the disk, but not in the cache; or in the cache, but not on the disk.
        store = out(self.named_store(FULL))
        store.link("a", "b", at=4)
        store.out_entry(4)
        store.link("a", "c", at=6)
        store.drop("a")
        store.drop("b")
        self.not_let("keep", store, store.out_entry, 0)
        self.not_let("keep", store, store.out_entry, 4)
        store.out_entry(6)
        store.out_entry(0)
        store.out_entry(4)
        # An entry that ties another node now.
        store = out(self.named_store(FULL))
        store.move("a", "b", at=3)
        store.make("c", 0, at=0)
        store.out_node(3)
        self.not_let("keep", store, store.out_entry, 0)
        store.out_entry(3)
        store.out_entry(0)
        self.assertEqual(self.entry(store.home, 0), (3, 64 + 3))

    def test_the_rule_keep_and_names(self):
        # The tie is the same, only the name is another one: that may go out.
        store = out(self.named_store(FULL))
        store.link("a", "b", at=4)
        store.drop("a")
        store.link("b", "c", at=0)
        store.out_entry(0)
        self.assertEqual(self.entry(store.home, 0), (3, 66))
        # The disk has the tie of an old making, which the cache does not back.
        store = out(self.named_store(without("after")))
        store.drop("a")
        store.make("b", 0, at=4)
        store.out_entry(0)
        self.assertEqual(self.entry(store.home, 0), (0, 0))

    def test_empty_entries_tie_nothing(self):
        """Whatever lies in front of the block of the first node: an empty entry ties no node."""
        for plan in (Plan(9, nodes=3, slots=10), Plan(16, nodes=10, slots=17), Plan(17, nodes=4, slots=20)):
            store = TieStore(plan, FULL)
            store.make("a", 0, at=2)
            store.out_node(2)
            for j in range(8):
                store.out_entry(j)
            self.assertTrue(store.agrees)
            store = TieStore(plan, NONE)
            self.assertEqual(store.faults(), [])
            store.make("a", 0, at=2)
            store.out_entry(2)
            self.assertEqual(store.faults(), [])

    def test_first_comes_before_keep(self):
        store = out(self.named_store(FULL))
        store.move("a", "b", at=3)
        store.make("c", 0, at=0)
        self.not_let("first", store, store.out_entry, 0)

    def test_agrees(self):
        store = TieStore(PLAN, NONE)
        store.make("a", 0)
        self.assertIs(store.agrees, False)
        store.out_node(2)
        self.assertIs(store.agrees, False)
        store.out_entry(0)
        self.assertIs(store.agrees, True)
        # Links and owners do not count, nor does the root's size; names do.
        store.link("a", "b")
        store.out_entry(1)
        self.assertEqual((store.home[6][1], store.home[5][2]), (1, 0))
        self.assertIs(store.agrees, True)
        store.drop("a")
        store.link("b", "c", at=0)
        self.assertIs(store.agrees, False)
        store.out_entry(0)
        self.assertIs(store.agrees, True)
        # Made in one of the two alone, or with another making.
        store.drop("b")
        store.drop("c")
        store.out_entry(0)
        store.out_entry(1)
        self.assertIs(store.agrees, False)
        store.make("d", 0, at=7)
        store.out_entry(7)
        self.assertIs(store.agrees, False)
        store.out_node(2)
        self.assertIs(store.agrees, True)

    def test_told(self):
        store = TieStore(PLAN, FULL)
        store.told()
        self.assertEqual(store.told_makings, {})
        store.make("a", 0)
        store.make("b", 0)
        self.not_let("told", store, store.told)
        out(store)
        store.told()
        self.assertEqual(store.told_makings, {2: 1, 3: 1})
        store = TieStore(PLAN, without("told"))
        store.make("a", 0)
        store.told()
        self.assertEqual(store.told_makings, {2: 1})
        store.drop("a")
        store.make("b", 0)
        self.assertEqual(store.told_makings, {})
        store.told()
        self.assertEqual(store.told_makings, {2: 2})

    def test_cut(self):
        store = TieStore(PLAN, NONE)
        store.make("a", 0)
        store.out_entry(0)
        before = whole(store)
        image = store.cut()
        self.assertEqual(state(image), state(Image.of_cells(PLAN, store.home)))
        image.cells[10][0] = 5
        self.assertEqual(whole(store), before)
        self.assertEqual(findings(store.cut()), [("entry", 1, 0), ("empty", 1, 0), ("empty", 1, 1), ("map", 10),
                                                 ("map", 11), ("used", 0)])

    def test_faults(self):
        store = TieStore(PLAN, NONE)
        for k, name in enumerate("abc"):
            store.make(name, 0, at=k)
        store.told()
        self.assertEqual(store.faults(), [("gone", 2), ("gone", 3), ("gone", 4)])
        store.out_node(3)
        self.assertEqual(store.faults(), [("gone", 2), ("gone", 3), ("gone", 4)])
        store.out_entry(1)
        self.assertEqual(store.faults(), [("gone", 2), ("gone", 4)])
        store.out_entry(0)
        self.assertEqual(store.faults(), [("gone", 2), ("gone", 4)])
        store.out_node(2)
        self.assertEqual(store.faults(), [("gone", 4)])
        # Another making on the disk: a wrong entry, and the told one is gone.
        store.drop("b")
        store.make("e", 0, at=7)
        store.out_node(3)
        self.assertEqual(store.faults(), [("wrong", 1), ("gone", 4)])
        store.drop("a")
        store.make("f", 0, at=6)
        store.out_entry(6)
        self.assertEqual(store.faults(), [("wrong", 1), ("wrong", 6), ("gone", 4)])
        store.told()
        self.assertEqual(store.faults(), [("wrong", 1), ("wrong", 6), ("gone", 2), ("gone", 3), ("gone", 4)])
        store.faults().clear()
        self.assertEqual(len(store.faults()), 5)

    def test_faults_with_the_rule_numbered(self):
        store = out(self.named_store(only("numbered")))
        store.drop("a")
        store.make("b", 0, at=6)
        store.out_node(2)
        self.assertEqual(store.faults(), [])
        store.told()
        self.assertEqual(store.faults(), [("gone", 2)])
        store.out_entry(6)
        self.assertEqual(store.faults(), [])

    def test_an_unmade_node_makes_no_entry_wrong(self):
        store = out(self.named_store(NONE))
        store.drop("a")
        store.out_node(2)
        self.assertEqual(store.faults(), [])

    def test_standing(self):
        store = TieStore(PLAN, NONE)
        for n in (2, 5):
            self.assertEqual(store.standing(n), tie_start(8))
        store.make("a", 0, at=3)
        self.assertEqual(store.standing(2), (1, (0, 0, 0, 1, 0, 0, 0, 0), "u", ("-",) * 8, 0))
        self.assertEqual(store.standing(3), tie_start(8))
        store.out_entry(3)
        store.out_node(2)
        store.told()
        self.assertEqual(store.standing(2), (1, (0, 0, 0, 1, 0, 0, 0, 0), "n", ("-",) * 3 + ("n",) + ("-",) * 4, 1))
        store.drop("a")
        # An unmade node keeps its making: what the disk has is still of the present one.
        self.assertEqual(store.standing(2), (0, (0,) * 8, "n", ("-",) * 3 + ("n",) + ("-",) * 4, 0))
        store.make("b", 0, at=7)
        self.assertEqual(store.standing(2), (1, (0,) * 7 + (1,), "o", ("-",) * 3 + ("o",) + ("-",) * 4, 0))
        store.out_entry(7)
        self.assertEqual(store.standing(2)[3], ("-",) * 3 + ("o",) + ("-",) * 3 + ("n",))

    def test_resumed(self):
        store = TieStore(PLAN, FULL)
        store.make("a", 1, at=6)
        store.make("b", 2, at=1)
        store.link("b", "c", at=5)
        store.drop("a")
        store.make("d", 3, at=2)
        out(store)
        image, lost = mended(store.cut())
        self.assertEqual(lost, [])
        before = state(image)
        found = TieStore.resumed(store.book, image)
        self.assertEqual(state(image), before)
        self.assertEqual(found.tied_names(), [("b", 3), ("d", 2), ("c", 3)])
        self.assertEqual(found.cache.cells, store.cache.cells)
        self.assertEqual(found.home, found.cache.cells)
        self.assertEqual(found.told_makings, {2: 2, 3: 1})
        self.assertIs(found.book, store.book)
        self.assertEqual(found.plan.text(), PLAN.text())
        self.assertTrue(found.agrees)
        # Nothing is shared.
        found.drop("d")
        found.out_node(2)
        self.assertEqual(state(image), before)
        self.assertEqual(store.tied_names(), [("b", 3), ("d", 2), ("c", 3)])

    def test_resumed_without_names(self):
        image, lost = mended(TieStore(PLAN, FULL).cut())
        self.assertEqual((lost, image.cells[5][4:6]), ([], [0, 0]))
        found = TieStore.resumed(FULL, image)
        self.assertEqual(found.cache.cells, TieStore(PLAN, FULL).cache.cells)
        self.assertEqual(found.told_makings, {})
        # One block alone: the entries keep their numbers.
        store = TieStore(PLAN, FULL)
        store.make("a", 0, at=6)
        out(store)
        found = TieStore.resumed(FULL, mended(store.cut())[0])
        self.assertEqual(self.entry(found.cache.cells, 6), (1, 66))
        self.assertEqual(found.cache.cells[5], [2, 1, 1, 0, 10, 11, 0, 1])

    def test_after_a_stop_makings_of_unmade_nodes_stay(self):
        store = TieStore(PLAN, without("keep"))
        store.make("a", 0)
        out(store)
        store.drop("a")
        out(store)
        found = TieStore.resumed(store.book, mended(store.cut())[0])
        self.assertEqual(found.make("a", 0), 2)
        self.assertEqual(found.cache.cells[6][7], 2)

    def test_makings_after_a_stop_without_numbered(self):
        store = TieStore(PLAN, TieBook(()))
        store.make("a", 0)
        out(store)
        store.drop("a")
        store.make("b", 0, at=4)
        store.out_node(2)
        image, lost = mended(store.cut(), numbered=False)
        self.assertEqual(lost, [])
        self.assertEqual(read_tree(image)[1][0], "a")
        found = TieStore.resumed(store.book, image)
        self.assertEqual(found.tied_names(), [("a", 2)])
        self.assertEqual(self.entry(found.cache.cells, 0), (1, 2 * 64 + 2))
        image, lost = mended(store.cut())
        self.assertEqual(lost, [("entry", 1, 0), ("node", 2)])

    def test_stores_by_chance(self):
        """Every move on a store is a letter for each node, and leads where the table says; stops are mended."""
        chance = random.Random(71)
        for _ in range(120):
            book = TieBook.of_number(chance.randrange(32))
            store = TieStore(Plan(24, nodes=chance.choice((3, 5)), slots=30), book)
            standings = {n: tie_start(8) for n in range(2, store.plan.nodes + 1)}
            for _ in range(60):
                self.one_move(chance, store, standings)
                for n in standings:
                    self.assertEqual(store.standing(n), standings[n], book.text())
                bad = any(tie_bad(standings[n], book) for n in standings)
                self.assertEqual(bool(store.faults()), bad)
                names = store.tied_names()
                self.assertEqual(store.cache.cells[store.plan.node_block(1)][2], len(names))
                if bad:
                    break
                if chance.random() < 0.05:
                    image = mended(store.cut(), numbered="numbered" in book)[0]
                    self.assertEqual(findings(image), [])
                    store = TieStore.resumed(book, image)
                    self.assertTrue(store.agrees)
                    self.assertEqual(store.faults(), [])
                    standings = {n: store.standing(n) for n in standings}

    def one_move(self, chance, store, standings):
        kind = chance.choice("make make link drop drop move out_node out_node out_entry out_entry out_entry told".split())
        names = [name for name, _ in store.tied_names()] or ["x"]
        name, new, at = chance.choice(names), "abcdefghijkl"[chance.randrange(12)], chance.randrange(8)
        nodes = dict(store.tied_names())
        places = {name: j for j in range(8) for name in [self.name_at(store, j)] if name}
        before = dict(standings)
        try:
            if kind == "make":
                n = store.make(new, 0, at=at)
                letters = {n: ("make", self.place_of(store, new))}
            elif kind == "link":
                letters = {nodes.get(name): ("link", store.link(name, new, at=at))}
            elif kind == "drop":
                letters = {nodes.get(name): ("drop", store.drop(name))}
            elif kind == "move":
                letters = {nodes.get(name): ("move", places.get(name), store.move(name, new, at=at))}
            elif kind == "out_node":
                n = chance.choice(list(standings))
                store.out_node(n)
                letters = {n: ("out_node",)}
            elif kind == "out_entry":
                store.out_entry(at)
                letters = {n: ("out_entry", at) for n in standings}
            else:
                store.told()
                letters = {n: ("told",) for n in standings}
        except (NameTaken, NoSuchName, FolderFull, NodesFull, NotLet):
            return
        for n, letter in letters.items():
            standings[n] = tie_after(before[n], letter, store.book)
            self.assertIsNotNone(standings[n], f"{letter} {store.book.text()}")

    def name_at(self, store, j):
        code = store.cache.cells[store.plan.first_data + j // 4][2 * (j % 4)]
        return "abcdefghijkl"[code - 1] if code else ""

    def place_of(self, store, name):
        return [j for j in range(8) if self.name_at(store, j) == name][0]


if __name__ == "__main__":
    unittest.main()
