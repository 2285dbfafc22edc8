import random
import unittest

from helpers import small_plan, state, wide_plan
from making import random_deed, random_rows
from storing import RIGHT_BOOKS, copy_all, store_state, without

from lotsandties.books import Book
from lotsandties.comingup import come_up
from lotsandties.cuts import keeps
from lotsandties.desk import Desk
from lotsandties.errors import (
    BadValue,
    BlocksFull,
    InUse,
    NameTaken,
    NodesFull,
    NoSuchName,
    NothingToUndo,
    NotLet,
    NoWrite,
    StoreError,
)
from lotsandties.finishing import finish
from lotsandties.plaintree import PlainTree
from lotsandties.plan import Plan
from lotsandties.playing import play
from lotsandties.reading import read_tree
from lotsandties.store import Store

FULL = Book.full()


def desk_of(*names, book=FULL, plan=None):
    desk = Desk(plan or small_plan(), book)
    for name in names:
        desk.join(name)
    return desk


def turns(desk, name, *deeds):
    for deed in deeds:
        desk.ask(name, deed)
    return [desk.turn(name) for _ in deeds]


def desk_state(desk):
    """Everything that can be seen of a desk, as a value of its own."""
    clients = [(name, desk.waiting_deeds(name), desk.open_nodes(name)) for name in desk.client_names()]
    return (store_state(desk.store), list(desk.journal), clients)


def without_words(rows):
    return [row[:5] + (len(row[5]) if row[1] == "file" else row[5],) for row in rows]


class DeskTest(unittest.TestCase):
    def kept_out(self, error, desk, step, *arguments, **more):
        whole = desk_state(desk)
        with self.assertRaises(error) as caught:
            step(*arguments, **more)
        self.assertIs(type(caught.exception), error)
        self.assertEqual(desk_state(desk), whole)
        return caught.exception

    def test_a_new_desk(self):
        desk = Desk(small_plan(), FULL)
        self.assertEqual(store_state(desk.store), store_state(Store(small_plan(), FULL)))
        self.assertEqual(desk.journal, [])
        self.assertEqual(desk.client_names(), [])
        self.assertEqual(desk.check(), [])
        self.assertEqual(desk.rows(), [(".", "folder", ".", 0, 1, 0)])
        self.kept_out(NothingToUndo, desk, desk.undo)

    def test_join(self):
        desk = desk_of("zoe", "al")
        self.assertEqual(desk.client_names(), ["zoe", "al"])
        self.assertEqual((desk.waiting_deeds("zoe"), desk.open_nodes("zoe")), ([], []))
        self.kept_out(NameTaken, desk, desk.join, "al")
        for name in ("", "Al", "abcde", "a1", "a/b", ".", "a b"):
            self.kept_out(BadValue, desk, desk.join, name)
        desk.client_names().clear()
        self.assertEqual(desk.client_names(), ["zoe", "al"])

    def test_unknown_clients(self):
        desk = desk_of("al")
        for name in ("bo", "", "A", "al "):
            for step in (desk.waiting_deeds, desk.open_nodes, desk.turn, desk.leave):
                self.kept_out(NoSuchName, desk, step, name)
            self.kept_out(NoSuchName, desk, desk.ask, name, ("file", "f", 0))
            self.kept_out(NoSuchName, desk, desk.ask, name, ("file", "f"))
        self.kept_out(BadValue, desk, desk.ask, "al", ("file", "f"))
        self.kept_out(BadValue, desk, desk.ask, "al", ["file", "f", 0])

    def test_turns_in_order(self):
        desk = desk_of("al", "bo")
        self.assertEqual(desk.turn("al"), ("nothing", ""))
        desk.ask("al", ("file", "f", 1))
        desk.ask("al", ("file", "f", 2))
        desk.ask("bo", ("folder", "d", 0))
        desk.ask("al", ("limit", 3, 5))
        self.assertEqual(desk.waiting_deeds("al"), [("file", "f", 1), ("file", "f", 2), ("limit", 3, 5)])
        desk.waiting_deeds("al").clear()
        self.assertEqual(desk.turn("bo"), ("done", 2))
        self.assertEqual(desk.turn("al"), ("done", 3))
        self.assertEqual(desk.turn("al"), ("refused", ""))
        self.assertEqual(desk.waiting_deeds("al"), [("limit", 3, 5)])
        self.assertEqual(desk.turn("al"), ("done", 0))
        self.assertEqual([desk.turn("al"), desk.turn("bo")], [("nothing", "")] * 2)
        self.assertEqual(desk.journal, [
            ("bo", ("folder", "d", 0), ("done", 2), 1),
            ("al", ("file", "f", 1), ("done", 3), 1),
            ("al", ("file", "f", 2), ("refused", ""), 1),
            ("al", ("limit", 3, 5), ("done", 0), 1),
        ])

    def test_wishes(self):
        desk = desk_of("al")
        desk.ask("al", ("file", "f", 0))
        desk.turn("al", wish=20)
        self.assertEqual(desk.store.image.kind(20), 1)

    def test_lots_of_the_journal(self):
        desk = desk_of("al")
        turns(desk, "al", ("file", "f", 0))
        desk.store.close()
        turns(desk, "al", ("limit", 0, 0))
        copy_all(desk.store)
        turns(desk, "al", ("limit", 1, 1), ("file", "f", 0))
        desk.store.mark()
        desk.store.barrier()
        turns(desk, "al", ("file", "f", 0))
        self.assertEqual([entry[3] for entry in desk.journal], [1, 1, 2, 2, 2])

    def test_a_deed_that_must_wait(self):
        desk = desk_of("al", "bo")
        turns(desk, "al", ("file", "f", 0))
        desk.store.close()
        desk.ask("al", ("file", "g", 0))
        desk.ask("al", ("file", "h", 0))
        whole = desk_state(desk)
        for _ in range(2):
            self.assertEqual(desk.turn("al"), ("notlet", "wait"))
            self.assertEqual(desk_state(desk), whole)
        # What changes no block that is still to be copied need not wait.
        self.assertEqual(turns(desk, "bo", ("open", "f"), ("file", "f", 0)), [("done", 2), ("refused", "")])
        copy_all(desk.store)
        self.assertEqual(desk.turn("al"), ("done", 3))
        self.assertEqual(desk.waiting_deeds("al"), [("file", "h", 0)])

    def test_open_nodes(self):
        desk = desk_of("al", "bo")
        turns(desk, "al", ("file", "f", 0), ("file", "g", 0), ("open", "g"), ("open", "f"), ("open", "g"))
        turns(desk, "bo", ("open", "f"))
        self.assertEqual((desk.open_nodes("al"), desk.open_nodes("bo")), ([2, 3, 3], [2]))
        desk.open_nodes("al").clear()
        self.assertEqual(turns(desk, "al", ("shut", 3), ("open", "x")), [("done", 0), ("refused", "")])
        self.assertEqual((desk.open_nodes("al"), desk.store.image.handles), ([2, 3], {2: 2, 3: 1}))
        # A node that another client has open cannot be shut.
        before = store_state(desk.store)
        self.assertEqual(turns(desk, "bo", ("shut", 3), ("shut", 9)), [("refused", ""), ("refused", "")])
        self.assertEqual(store_state(desk.store), before)
        self.assertEqual(desk.journal[-2:], [("bo", ("shut", 3), ("refused", ""), 1),
                                             ("bo", ("shut", 9), ("refused", ""), 1)])
        self.assertEqual(turns(desk, "bo", ("shut", 2), ("shut", 2)), [("done", 0), ("refused", "")])
        self.assertEqual(desk.store.image.handles, {2: 1, 3: 1})

    def test_leave(self):
        desk = desk_of("al", "bo")
        turns(desk, "al", ("file", "f", 0), ("write", "f", 0, (1, 2)), ("file", "g", 0))
        turns(desk, "bo", ("open", "g"), ("open", "f"), ("open", "f"))
        turns(desk, "al", ("open", "f"), ("unlink", "g"))
        desk.ask("bo", ("file", "x", 0))
        many = len(desk.journal)
        self.assertIsNone(desk.leave("bo"))
        self.assertEqual(desk.client_names(), ["al"])
        self.assertEqual(desk.journal[many:], [("bo", ("shut", 2), ("done", 0), 1), ("bo", ("shut", 2), ("done", 0), 1),
                                               ("bo", ("shut", 3), ("done", 0), 1)])
        self.assertEqual(desk.store.image.handles, {2: 1})
        self.kept_out(NoSuchName, desk, desk.turn, "bo")
        desk.join("bo")
        self.assertEqual((desk.waiting_deeds("bo"), desk.open_nodes("bo")), ([], []))
        self.assertEqual(desk.client_names(), ["al", "bo"])
        desk.leave("bo")
        self.assertEqual(len(desk.journal), many + 3)

    def test_leave_that_must_wait(self):
        desk = desk_of("al", "bo")
        turns(desk, "al", ("file", "e", 0), ("open", "e"), ("file", "f", 0), ("open", "f"), ("unlink", "f"))
        desk.store.close()
        desk.ask("al", ("file", "x", 0))
        self.assertEqual(desk.open_nodes("al"), [2, 3])
        # Shutting the first node alone could be done.
        error = self.kept_out(NotLet, desk, desk.leave, "al")
        self.assertEqual(error.rule, "wait")
        self.assertEqual(desk.client_names(), ["al", "bo"])
        copy_all(desk.store)
        desk.leave("al")
        self.assertEqual(desk.store.image.handles, {})
        self.assertEqual(desk.journal[-1], ("al", ("shut", 3), ("done", 0), 2))

    def test_undo(self):
        desk = desk_of("al", "bo")
        turns(desk, "al", ("file", "f", 1), ("write", "f", 0, (1, 2, 3)))
        kept = desk.rows()
        turns(desk, "bo", ("write", "f", 2, (7, 8)), ("unlink", "f"))
        many = len(desk.journal)
        self.assertEqual(desk.undo(), 3)
        self.assertEqual(desk.journal[many:], [
            ("", ("file", "f", 1), ("done", 2), 1),
            ("", ("cut", "f", 4), ("done", 0), 1),
            ("", ("write", "f", 0, (1, 2, 7, 8)), ("done", 0), 1),
        ])
        self.assertEqual(desk.undo(), 2)
        self.assertEqual(desk.rows(), kept)
        self.assertEqual([desk.undo(), desk.undo()], [1, 1])
        self.assertEqual(desk.rows(), [(".", "folder", ".", 0, 1, 0)])
        self.kept_out(NothingToUndo, desk, desk.undo)

    def test_what_is_not_undone(self):
        desk = desk_of("al")
        turns(desk, "al", ("file", "f", 1), ("open", "f"), ("file", "f", 0), ("rename", "f", "f"), ("cut", "f", 0),
              ("shut", 2), ("shut", 2), ("piece", 2))
        desk.leave("al")
        self.assertEqual(desk.undo(), 1)
        self.assertEqual(len(desk.rows()), 1)
        self.kept_out(NothingToUndo, desk, desk.undo)

    def test_undoing_deeds_of_the_store_alone(self):
        desk = desk_of("al")
        turns(desk, "al", ("file", "f", 1))
        desk.store.do(("file", "g", 0))
        self.assertEqual(len(desk.journal), 1)
        desk.undo()
        self.assertEqual([row[0] for row in desk.rows()], [".", "g"])

    def test_a_deed_that_cannot_be_undone(self):
        desk = desk_of("al", plan=Plan(40, nodes=16, slots=60))
        deep = "a/a/a/a/a/a/a/a"
        turns(desk, "al", *[("folder", deep[:2 * k + 1], 0) for k in range(8)], ("sign", "s", 0, deep))
        turns(desk, "al", ("file", "s/f", 0))
        self.kept_out(NothingToUndo, desk, desk.undo)
        turns(desk, "al", ("file", "g", 0), ("rename", "g", "s/g"), ("limit", 0, 9))
        self.assertEqual(desk.undo(), 1)
        self.kept_out(NothingToUndo, desk, desk.undo)

    def test_undo_that_is_refused(self):
        desk = desk_of("al", plan=Plan(24, nodes=3, slots=30))
        turns(desk, "al", ("file", "f", 0), ("file", "g", 0), ("rename", "g", "f"))
        desk.store.do(("file", "x", 0))
        # The move back could be done, but there is no node for the file that it replaced.
        for _ in range(2):
            self.kept_out(NodesFull, desk, desk.undo)
        desk.store.do(("unlink", "x"))
        self.assertEqual(desk.undo(), 2)
        self.assertEqual([row[0] for row in desk.rows()], [".", "f", "g"])

    def test_undo_that_must_wait(self):
        desk = desk_of("al", plan=Plan(24, nodes=3, slots=30))
        turns(desk, "al", ("file", "f", 0), ("file", "g", 0), ("rename", "g", "f"))
        desk.store.close()
        self.assertEqual(self.kept_out(NotLet, desk, desk.undo).rule, "wait")
        copy_all(desk.store)
        self.assertEqual(desk.undo(), 2)
        # The errors of all deeds come first, then NotLet.
        desk = desk_of("al", plan=Plan(24, nodes=3, slots=30))
        turns(desk, "al", ("file", "f", 0), ("file", "g", 0), ("rename", "g", "f"))
        desk.store.do(("file", "x", 0))
        desk.store.close()
        self.kept_out(NodesFull, desk, desk.undo)

    def test_undo_takes_only_blocks_that_are_not_barred(self):
        # The file was committed, so the rule reuse bars its block, and there is no other one.
        plan = Plan(9, nodes=3, slots=30)
        desk = desk_of("al", plan=plan)
        turns(desk, "al", ("file", "f", 0), ("write", "f", 0, (1,)))
        self.assertTrue(desk.flush())
        turns(desk, "al", ("unlink", "f"))
        self.kept_out(BlocksFull, desk, desk.undo)
        self.assertTrue(desk.flush())
        self.assertEqual(desk.undo(), 3)

    def test_copies(self):
        desk = desk_of("al")
        turns(desk, "al", ("file", "f", 1), ("write", "f", 0, (1,)))
        first = desk.rows()
        self.assertEqual(first, read_tree(desk.store.image))
        self.assertIsNone(desk.save("one"))
        turns(desk, "al", ("write", "f", 0, (2,)), ("own", ".", 2))
        desk.save("two")
        self.assertEqual(desk.saved("one"), first)
        self.assertEqual(desk.saved("two"), desk.rows())
        desk.saved("one").clear()
        self.assertEqual(desk.saved("one"), first)
        self.kept_out(NameTaken, desk, desk.save, "one")
        for label in ("", "One", "abcde", "1", "a/b"):
            self.kept_out(BadValue, desk, desk.save, label)
            self.kept_out(NoSuchName, desk, desk.saved, label)
            self.kept_out(NoSuchName, desk, desk.drop, label)
        self.assertIsNone(desk.drop("one"))
        self.kept_out(NoSuchName, desk, desk.saved, "one")
        self.kept_out(NoSuchName, desk, desk.drop, "one")
        desk.save("one")
        self.assertEqual(desk.saved("one"), desk.saved("two"))

    def test_labels_and_clients_are_apart(self):
        desk = desk_of("al")
        desk.save("al")
        desk.drop("al")
        self.assertEqual(desk.client_names(), ["al"])

    def test_check(self):
        desk = desk_of("al")
        turns(desk, "al", ("file", "f", 1))
        self.assertEqual(desk.check(), [])
        desk.store.image.cells[6][1] = 5
        self.assertEqual(desk.check(), [("links", 2)])

    def test_flush(self):
        desk = desk_of("al")
        turns(desk, "al", ("file", "f", 1), ("write", "f", 0, (1,)))
        self.assertIs(desk.flush(), True)
        self.assertEqual((desk.store.number, desk.store.window, desk.store.chronicle.safe), (1, [], 1))
        self.assertIs(desk.flush(), True)
        # A log that is too small for the copies of one lot.
        desk = desk_of("al", plan=Plan(64, nodes=16, slots=65))
        for k in range(24):
            desk.store.disk.issue(("log", 64 - k), ("mark", 500, (), ()))
        for k in range(41):
            desk.store.disk.issue(("log", k), ("mark", 500, (), ()))
        turns(desk, "al", ("file", "f", 1))
        desk.store.close()
        self.assertEqual(play(desk.store, [("copy", 0)]), [("notnow", "")])

    def test_flush_that_is_not_done(self):
        # Without the rule frozen a copy may be wrong; its lot can then never leave the window under the rule room.
        desk = desk_of("al", book=without("frozen", "wait"))
        turns(desk, "al", ("file", "f", 1))
        desk.store.close()
        turns(desk, "al", ("own", "f", 2))
        copy_all(desk.store)
        desk.store.mark()
        desk.store.barrier()
        self.assertIs(desk.flush(), False)

    def test_stop(self):
        desk = desk_of("al", "bo")
        turns(desk, "al", ("file", "f", 1), ("open", "f"))
        desk.store.close()
        copy_all(desk.store)
        desk.store.mark()
        desk.store.barrier()
        turns(desk, "bo", ("file", "g", 1), ("open", "f"), ("file", "g", 1))
        desk.ask("bo", ("file", "h", 1))
        desk.save("one")
        book = desk.store.book
        self.assertEqual(desk.stop(()), (1, ""))
        self.assertIs(desk.store.book, book)
        self.assertEqual([row[0] for row in desk.rows()], [".", "f"])
        self.assertEqual(desk.journal, [("al", ("file", "f", 1), ("done", 2), 1), ("al", ("open", "f"), ("done", 2), 1)])
        self.assertEqual(desk.client_names(), ["al", "bo"])
        self.assertEqual((desk.open_nodes("al"), desk.open_nodes("bo")), ([], []))
        self.assertEqual(desk.waiting_deeds("bo"), [("file", "h", 1)])
        self.assertEqual(len(desk.saved("one")), 3)
        self.kept_out(NothingToUndo, desk, desk.undo)
        self.assertEqual(turns(desk, "al", ("shut", 2)), [("refused", "")])

    def test_each_choice_of_pending_writes(self):
        for count in range(8):
            desk = desk_of("al")
            turns(desk, "al", ("file", "f", 1), ("write", "f", 0, (1,)))
            desk.store.close()
            copy_all(desk.store)
            play(desk.store, [("words", x) for x in range(24)] + [("barrier",), ("mark",), ("barrier",)])
            play(desk.store, [("home", 0), ("home", 5), ("home", 6)])
            numbers = [write[0] for write in desk.store.disk.pending()]
            keep = list(keeps(numbers))[count]
            found = come_up(desk.store.cut(keep), FULL)
            kept = desk.rows()
            self.assertEqual(desk.stop(keep), (1, ""))
            self.assertEqual(store_state(desk.store), store_state(found))
            self.assertEqual(desk.rows(), kept)

    def test_a_stop_before_the_mark_is_sure(self):
        for kept, number in ((False, 0), (True, 1)):
            desk = desk_of("al")
            turns(desk, "al", ("file", "f", 1))
            desk.store.close()
            copy_all(desk.store)
            w = desk.store.mark()
            self.assertEqual(desk.stop([w] if kept else []), (number, ""))
            self.assertEqual(len(desk.rows()), 1 + number)
            self.assertEqual(len(desk.journal), number)

    def test_removals_are_finished_after_a_stop(self):
        desk = desk_of("al", plan=wide_plan())
        turns(desk, "al", ("file", "f", 1), ("write", "f", 0, (1,) * 16), ("write", "f", 16, (1,) * 16), ("open", "f"),
              ("unlink", "f"))
        self.assertTrue(desk.flush())
        self.assertEqual(desk.store.image.cells[1][0], 2)
        found = come_up(desk.store.cut(()), FULL)
        self.assertEqual(desk.stop(()), (1, ""))
        self.assertEqual(desk.store.image.cells[1], [0] * 8)
        self.assertEqual(finish(found), 2)
        self.assertEqual(store_state(desk.store), store_state(found))

    def test_a_stop_with_a_fault(self):
        desk = desk_of("al", book=without("told"))
        turns(desk, "al", ("file", "f", 1))
        desk.store.told()
        self.assertEqual(desk.stop(()), (0, "told"))
        desk = desk_of("al", book=without("words"))
        turns(desk, "al", ("file", "f", 1), ("write", "f", 8, (1,)))
        desk.store.close()
        copy_all(desk.store)
        desk.store.mark()
        desk.store.barrier()
        self.assertEqual(desk.stop(()), (1, "words f 1"))
        # Nothing is finished then.
        desk = desk_of("al", book=without("told"), plan=wide_plan())
        turns(desk, "al", ("file", "f", 1), ("write", "f", 0, (1,) * 16), ("write", "f", 16, (1,)), ("open", "f"),
              ("unlink", "f"))
        self.assertTrue(desk.flush())
        turns(desk, "al", ("file", "g", 1))
        desk.store.told()
        self.assertEqual(desk.stop(()), (1, "told"))
        self.assertEqual(desk.store.image.cells[1][0], 2)

    def test_a_stop_that_cannot_be(self):
        desk = desk_of("al")
        turns(desk, "al", ("file", "f", 1))
        desk.store.close()
        w = desk.store.copy(0)
        for keep in ((w + 1,), [0], (w, w)):
            self.kept_out(NoWrite, desk, desk.stop, keep)

    def test_move(self):
        desk = desk_of("al")
        turns(desk, "al", ("file", "f", 1), ("write", "f", 6, (1, 2, 3)), ("link", "f", "g"), ("limit", 2, 7),
              ("file", "f", 0))
        desk.ask("al", ("file", "h", 0))
        desk.save("one")
        desk.store.close()
        kept = desk.rows()
        for plan in (Plan(16, nodes=2, slots=20), Plan(64, nodes=9, slots=100), small_plan()):
            self.assertIsNone(desk.move(plan))
            store = desk.store
            self.assertIs(store.plan, plan)
            self.assertEqual(store.book.text(), FULL.text())
            self.assertEqual((store.number, store.closing, store.window, store.disk.quiet), (0, None, [], True))
            self.assertEqual(store.image.serial, 2)
            self.assertEqual(state(store.image), state(store.committed))
            self.assertEqual([list(row) for row in store.disk.home], store.image.cells)
            self.assertEqual(store.home_ids, [store.image.identity(x) for x in range(plan.blocks)])
            self.assertEqual((store.disk.head, store.present, store.chronicle.safe), (0, 0, 0))
            self.assertEqual(desk.rows(), kept)
            self.assertEqual(store.image.cells[0][6], 7)
            self.assertEqual(desk.check(), [])
        self.assertEqual([entry[3] for entry in desk.journal], [0] * 5)
        self.assertEqual(desk.journal[-1], ("al", ("file", "f", 0), ("refused", ""), 0))
        self.assertEqual(desk.waiting_deeds("al"), [("file", "h", 0)])
        self.assertEqual(desk.saved("one"), kept)
        self.kept_out(NothingToUndo, desk, desk.undo)
        self.assertEqual(desk.stop(()), (0, ""))
        self.assertEqual(desk.rows(), kept)

    def test_moves_that_are_refused(self):
        desk = desk_of("al")
        turns(desk, "al", ("file", "f", 1), ("write", "f", 6, (1, 2, 3)), ("file", "g", 1), ("open", "f"))
        self.kept_out(InUse, desk, desk.move, Plan(8, nodes=2, slots=20))
        self.kept_out(InUse, desk, desk.move, wide_plan())
        turns(desk, "al", ("shut", 2))
        self.kept_out(NodesFull, desk, desk.move, Plan(8, nodes=2, slots=20))
        self.kept_out(BlocksFull, desk, desk.move, Plan(8, nodes=3, slots=20))
        self.assertEqual(desk.undo(), 1)
        desk.move(wide_plan())

    def test_a_removed_open_file_keeps_the_tree_where_it_is(self):
        desk = desk_of("al")
        turns(desk, "al", ("file", "f", 1), ("open", "f"), ("unlink", "f"))
        self.kept_out(InUse, desk, desk.move, wide_plan())
        desk.leave("al")
        desk.move(wide_plan())
        self.assertEqual(len(desk.rows()), 1)

    def test_desks_by_chance(self):
        """What points 96 and 143 say, under right books: the journal tells the tree."""
        chance = random.Random(91)
        seen = {"stops": 0, "moves": 0, "undone": 0, "left": 0}
        for k in range(40):
            desk = desk_of("a", "b", "c", book=Book.read(RIGHT_BOOKS[k % len(RIGHT_BOOKS)]),
                           plan=Plan(chance.choice((20, 30)), nodes=chance.choice((5, 8)), slots=90))
            self.run_desk(chance, desk, seen)
        self.assertTrue(all(count > 10 for count in seen.values()), seen)

    def run_desk(self, chance, desk, seen):
        stopped = False
        for _ in range(150):
            kind = chance.random()
            name = chance.choice("abc")
            if kind < 0.6:
                files = [row[0] for row in desk.rows() if row[1] == "file" and row[0].count("/") < 8]
                opens = files and chance.random() < 0.1
                desk.ask(name, ("open", chance.choice(files)) if opens else random_deed(chance))
                desk.turn(name, wish=chance.randrange(64))
            elif kind < 0.8:
                rows = [row for row in random_rows(chance, desk.store) if row[0] != "do"]
                play(desk.store, rows)
            elif kind < 0.86:
                seen["undone"] += self.tried(desk.undo)
            elif kind < 0.9:
                seen["left"] += len(desk.open_nodes(name)) > 0 and self.tried(desk.leave, name)
                if name not in desk.client_names():
                    desk.join(name)
            elif kind < 0.93:
                self.assertTrue(desk.flush())
            elif kind < 0.96:
                self.stop_desk(chance, desk)
                seen["stops"] += 1
                stopped = True
            else:
                plan = Plan(chance.choice((20, 30)), nodes=chance.choice((5, 8)), slots=90)
                seen["moves"] += self.tried(desk.move, plan)
            self.check_desk(desk, stopped)

    def tried(self, step, *arguments):
        try:
            step(*arguments)
            return True
        except StoreError:
            return False

    def stop_desk(self, chance, desk):
        keep = [write[0] for write in desk.store.disk.pending() if chance.random() < 0.5]
        lots = [entry[3] for entry in desk.journal]
        number, fault = desk.stop(keep)
        self.assertEqual((number, fault), (desk.store.number, ""))
        self.assertEqual([entry[3] for entry in desk.journal], [lot for lot in lots if lot <= number])

    def check_desk(self, desk, stopped):
        self.assertEqual(desk.check(), [])
        tree = PlainTree()
        for _, deed, outcome, lot in desk.journal:
            self.assertLessEqual(lot, desk.store.present)
            if outcome[0] == "done":
                tree.do(deed)
        if stopped:
            self.assertEqual(without_words(desk.rows()), without_words(tree.rows()))
        else:
            self.assertEqual(desk.rows(), tree.rows())
        opened = [n for name in desk.client_names() for n in desk.open_nodes(name)]
        self.assertEqual({n: opened.count(n) for n in opened}, desk.store.image.handles)


if __name__ == "__main__":
    unittest.main()
