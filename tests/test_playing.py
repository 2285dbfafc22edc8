"""Point 89: scripts played on stores."""

import unittest

from helpers import state
from storing import commit, copy_all, new_store, store_state, without

from lotsandties.errors import BadValue
from lotsandties.playing import play, steps
from lotsandties.rows import read_script

FILE = ("do", 0, ("file", "f", 0))


class PlayTest(unittest.TestCase):
    def test_no_rows(self):
        store = new_store()
        whole = store_state(store)
        self.assertEqual((play(store, []), list(steps(store, []))), ([], []))
        self.assertEqual(store_state(store), whole)

    def test_each_kind_of_row_done(self):
        store = new_store()
        script = """do 12 file f 0
do 0 write f 0 7
close
copy 12
copy 0
copy 3
copy 5
copy 6
barrier
words 10
sure 6
mark
sure 7
home 12
early 5
home 0
home 3
home 6
barrier
room
told"""
        outcomes = play(store, read_script(script))
        self.assertEqual([kind for kind, _ in outcomes], ["done"] * 21)
        self.assertEqual([answer for _, answer in outcomes],
                         [2, 0, 0, 1, 2, 3, 4, 5, 0, 6, 0, 7, 0, 8, 9, 10, 11, 12, 0, 0, 0])
        self.assertEqual((store.number, store.disk.head, store.chronicle.safe, store.window), (1, 1, 1, []))
        self.assertEqual(store.image.kind(12), 1)

    def test_the_same_as_by_the_methods(self):
        store, other = new_store(), new_store()
        play(store, [FILE, ("do", 20, ("write", "f", 0, (7,))), ("close",)])
        other.do(("file", "f", 0))
        other.do(("write", "f", 0, (7,)), wish=20)
        other.close()
        self.assertEqual(store_state(store), store_state(other))

    def test_refused_notnow_and_notlet(self):
        store = new_store()
        rows = [("do", 0, ("unlink", "x")), ("room",), ("mark",), ("copy", 5), ("home", 63), ("words", 10),
                ("sure", 1), FILE, ("close",), ("close",), ("mark",), ("do", 0, ("rename", "f", "g")), ("told",),
                ("early", 10), ("copy", 63), ("do", 0, ("file", "f", 0))]
        self.assertEqual(play(store, rows), [
            ("refused", ""), ("notnow", ""), ("notnow", ""), ("notnow", ""), ("notnow", ""), ("notnow", ""),
            ("notnow", ""), ("done", 2), ("done", 0), ("notnow", ""), ("notlet", "copies"), ("notlet", "wait"),
            ("notlet", "told"), ("notlet", "mark"), ("notnow", ""), ("refused", "")])

    def test_words_room_late_and_told(self):
        store = new_store(without("reuse", "shelve"))
        commit(store, ("file", "f", 0), ("sign", "s", 0, "f"))
        rows = [("room",), ("do", 0, ("unlink", "s")), ("do", 11, ("write", "f", 0, (7,))), ("words", 11), ("told",),
                ("close",)]
        self.assertEqual(play(store, rows), [("notlet", "room"), ("done", 1), ("done", 0), ("notlet", "late"),
                                             ("notlet", "told"), ("done", 0)])
        copy_all(store)
        self.assertEqual(play(store, [("mark",)]), [("notlet", "words")])

    def test_a_cut_in_the_middle(self):
        store = new_store()
        rows = [FILE, ("close",), ("copy", 5), ("copy", 10), ("cut", (1,)), ("copy", 0)]
        self.assertEqual(play(store, rows), [("done", 2), ("done", 0), ("done", 1), ("done", 2), ("done", 0)])
        # The store does not change by the cut, and what is behind it is not tried.
        self.assertEqual(len(store.disk.pending()), 2)
        self.assertEqual(play(store, [("cut", ())]), [("done", 0)])

    def test_a_cut_that_cannot_be_done(self):
        store = new_store()
        self.assertEqual(play(store, [FILE, ("cut", (1,)), ("close",)]), [("done", 2), ("notnow", "")])
        self.assertIsNone(store.closing)

    def test_rows_that_are_none(self):
        for row in (["close"], ("close", 1), ("stop",), ("copy", 64), ("do", 0, ("file", "f", 9)), ("cut", (2, 1)),
                    ("sure", 0), None):
            store = new_store()
            whole = store_state(store)
            self.assertRaises(BadValue, play, store, [FILE, ("close",), row])
            self.assertRaises(BadValue, list, steps(store, [FILE, row]))
            # Also behind a cut, where it would not be tried.
            self.assertRaises(BadValue, play, store, [FILE, ("cut", ()), row])
            self.assertEqual(store_state(store), whole)

    def test_rows_are_not_changed(self):
        rows = [FILE, ("close",), ("cut", ())]
        again = list(rows)
        play(new_store(), rows)
        self.assertEqual(rows, again)


class StepsTest(unittest.TestCase):
    def test_one_after_the_other(self):
        store = new_store()
        rows = [FILE, ("close",), ("close",), ("cut", ()), ("mark",)]
        seen = []
        for row, outcome in steps(store, rows):
            seen.append((row, outcome, store.image.serial, store.closing is None))
        self.assertEqual(seen, [(FILE, ("done", 2), 2, True), (("close",), ("done", 0), 2, False),
                                (("close",), ("notnow", ""), 2, False), (("cut", ()), ("done", 0), 2, False)])

    def test_left_early(self):
        store = new_store()
        for _ in steps(store, [FILE, ("close",)]):
            break
        self.assertIsNone(store.closing)
        self.assertEqual(store.image.serial, 2)

    def test_nothing_is_done_before_the_first_step(self):
        store = new_store()
        whole = state(store.image)
        steps(store, [FILE])
        self.assertEqual(state(store.image), whole)


if __name__ == "__main__":
    unittest.main()
