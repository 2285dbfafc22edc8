import random
import unittest

from helpers import small_plan
from making import random_deed, random_rows
from storing import copy_all, store_state, without

from lotsandties.books import Book
from lotsandties.deeds import deed_text
from lotsandties.desk import Desk
from lotsandties.deskrows import say, talk
from lotsandties.errors import BadText
from lotsandties.playing import play
from lotsandties.reading import rows_text
from lotsandties.rows import row_text
from lotsandties.store import Store

FULL = Book.full()


def desk_of(*lines, book=FULL):
    desk = Desk(small_plan(), book)
    for line in lines:
        say(desk, line)
    return desk


class DeskRowsTest(unittest.TestCase):
    def says(self, desk, *pairs):
        for line, answer in pairs:
            self.assertEqual(say(desk, line), answer, line)

    def test_clients(self):
        desk = desk_of()
        self.says(desk, ("join al", "ok"), ("join bo", "ok"), ("join al", "refused"), ("join Al", "bad"),
                  ("join 7", "bad"), ("join a/b", "bad"), ("join abcde", "bad"), ("leave bo", "ok"),
                  ("leave bo", "refused"), ("leave 9", "refused"))
        self.assertEqual(desk.client_names(), ["al"])

    def test_turns(self):
        desk = desk_of("join al")
        self.says(desk, ("turn al 0", "nothing"), ("ask al file f 1", "ok"), ("ask al file f 1", "ok"),
                  ("ask al write f 3 7 8", "ok"), ("ask al sign s 0 f", "ok"), ("turn al 20", "done 2"),
                  ("turn al 0", "refused"), ("turn al 63", "done 0"), ("turn al 0", "done 3"), ("turn al 5", "nothing"),
                  ("ask bo file f 1", "refused"), ("turn bo 0", "refused"))
        self.assertEqual(desk.store.image.kind(20), 1)
        self.assertEqual(desk.journal[2], ("al", ("write", "f", 3, (7, 8)), ("done", 0), 1))
        self.says(desk, ("close", "done 0"), ("ask al unlink f", "ok"), ("turn al 0", "notlet wait"),
                  ("turn al 0", "notlet wait"))

    def test_undo(self):
        desk = desk_of("join al", "ask al file f 1", "turn al 0", "ask al write f 9 1 2", "turn al 0")
        self.says(desk, ("undo", "done 1"), ("undo", "done 1"), ("undo", "notnow"))
        desk = desk_of("join al", "ask al file f 1", "turn al 0", "ask al write f 7 1 2 3 4 5 6 7 8 9 1 2", "turn al 0")
        self.says(desk, ("undo", "done 2"))
        desk = desk_of("join al", "ask al file f 1", "turn al 0", "close")
        self.says(desk, ("undo", "notlet wait"))
        copy_all(desk.store)
        desk.store.do(("unlink", "f"))
        self.says(desk, ("undo", "refused"))

    def test_trees(self):
        desk = desk_of("join al", "ask al file f 1", "turn al 0", "ask al write f 0 7 0 8", "turn al 0")
        tree = ". folder 0 1 . 1\nf file 1 1 f 7 0 8"
        self.says(desk, ("tree", tree), ("show x", "refused"), ("save x", "ok"), ("save x", "refused"),
                  ("save X", "bad"), ("save 5", "bad"), ("ask al unlink f", "ok"), ("turn al 0", "done 1"),
                  ("tree", ". folder 0 1 . 0"), ("show x", tree), ("show X", "refused"), ("drop x", "ok"),
                  ("drop x", "refused"), ("show x", "refused"))

    def test_flush_and_check(self):
        desk = desk_of("join al", "ask al file f 1", "turn al 0")
        self.says(desk, ("check", "clean"), ("flush", "safe"), ("flush", "safe"))
        desk.store.image.cells[6][1] = 4
        desk.store.image.cells[5][2] = 4
        self.says(desk, ("check", "found 2"))
        desk = desk_of("join al", "ask al file f 1", "turn al 0", "close", "ask al own f 2", "turn al 0",
                       book=without("frozen", "wait"))
        copy_all(desk.store)
        self.says(desk, ("mark", "done 6"), ("barrier", "done 0"), ("flush", "not safe"))

    def test_rows(self):
        desk = desk_of("join al", "ask al file f 1", "turn al 0")
        self.says(desk, ("mark", "notnow"), ("copy 0", "notnow"), ("close", "done 0"), ("close", "notnow"),
                  ("mark", "notlet copies"), ("copy 0", "done 1"), ("copy 0", "notnow"), ("copy 3", "done 2"),
                  ("sure 1", "done 0"), ("sure 1", "notnow"), ("barrier", "done 0"), ("copy 5", "done 3"),
                  ("copy 6", "done 4"), ("copy 10", "done 5"), ("copy 63", "notnow"), ("barrier", "done 0"),
                  ("mark", "done 6"), ("sure 6", "done 0"), ("home 10", "done 7"), ("home 10", "notnow"),
                  ("room", "notlet room"), ("words 10", "notnow"), ("early 6", "done 8"), ("told", "done 0"),
                  ("barrier", "done 0"))
        self.assertEqual(desk.store.number, 1)
        self.assertEqual(desk.store.chronicle.safe, 1)

    def test_stop(self):
        desk = desk_of("join al", "ask al file f 1", "turn al 0", "close", "copy 0", "copy 3", "copy 5")
        self.says(desk, ("stop 4", "notnow"), ("stop 1 9", "notnow"), ("stop 1 3", "up 0"), ("tree", ". folder 0 1 . 0"),
                  ("turn al 0", "nothing"))
        desk = desk_of("join al", "ask al file f 1", "turn al 0")
        copied = ["close", "copy 0", "copy 3", "copy 5", "copy 6", "copy 10", "barrier", "mark"]
        for line in copied:
            say(desk, line)
        self.says(desk, ("stop 6", "up 1"), ("stop", "up 1"))
        desk = desk_of("join al", "ask al file f 1", "turn al 0", "told", book=without("told"))
        self.says(desk, ("stop", "up 0 told"))
        desk = desk_of("join al", "ask al file f 1", "turn al 0", "ask al write f 8 1", "turn al 0", "close",
                       book=without("words"))
        copy_all(desk.store)
        self.says(desk, ("mark", "done 6"), ("barrier", "done 0"), ("stop", "up 1 words f 1"))
        desk = desk_of("join al", "ask al file f 1", "turn al 0", "close", "mark", "barrier", book=without("copies"))
        self.says(desk, ("stop", "up 1 tree"))

    def test_move(self):
        desk = desk_of("join al", "ask al file f 1", "turn al 0", "ask al file g 1", "turn al 0")
        self.says(desk, ("move 64 16 200", "ok"), ("move 16 3 17", "ok"), ("move 16 2 17", "refused"),
                  ("move 7 3 17", "bad"), ("move 16 3 16", "bad"), ("move 16 99 17", "bad"),
                  ("move 999999999999 3 17", "bad"), ("move 0 0 0", "bad"), ("ask al open f", "ok"),
                  ("turn al 0", "done 2"), ("move 64 16 200", "refused"), ("move 64 16 201", "bad"))
        self.assertEqual(desk.store.plan.text(), "plan 16 3 17")

    def test_other_lines(self):
        lines = """join,join al bo,join al ,join  al, join al,leave,leave al al,save,save x y,drop,drop x y,show,show x y
ask,ask al,ask al file,ask al file f,ask al file f 4,ask al file  f 1,ask al fil f 1,ask al file f 1 1,ask al do 1 file f 1
ask al write f 3,ask al nothing,turn,turn al,turn al 64,turn al 01,turn al -1,turn al x,turn al 1 1,turn al 1000000000000
undo 1,undo al,tree .,tree 1,flush now,check 1,move,move 24,move 24 5,move 24 5 30 1,move 24 5 x,move 24 5 030
move plan 24 5 30,move 24 5 1000000000000,stop 0,stop 1 1,stop 2 1,stop x,stop 01,stop 1000000,stop -1,stop 1 2 
close 1,copy,copy x,copy 64,copy 01,copy 1 2,mark 1,home,home 64,early 1 2,words,words 64,room 1,told 1,sure,sure 0
sure 1000000,barrier 1,do 0 file f 1,do file f 1,cut,cut 1,plan 24 5 30,JOIN al,Join al,none,nothing,done 1,file f 1
unlink f,rows,quit,,  ,joinal,turn\tal 1"""
        for line in lines.replace("\n", ",").split(","):
            desk = desk_of("join al")
            before = store_state(desk.store)
            with self.assertRaises(BadText, msg=line):
                say(desk, line)
            self.assertEqual(store_state(desk.store), before)
            self.assertEqual((desk.client_names(), desk.waiting_deeds("al"), desk.journal), (["al"], [], []))
        for line in ("\n", "tree\n", "tree\ntree"):
            with self.assertRaises(BadText):
                say(desk_of(), line)

    def test_words_of_any_kind_as_names(self):
        desk = desk_of()
        for line, answer in (("join a,b", "bad"), ("join ?", "bad"), ("leave join", "refused"), ("turn ? 3", "refused"),
                             ("ask 12 open f", "refused"), ("drop 12", "refused"), ("join turn", "ok"),
                             ("save tree", "ok")):
            self.assertEqual(say(desk, line), answer)
        # A line that is no line is bad text, even for a client that there is not.
        with self.assertRaises(BadText):
            say(desk, "ask nobody file f")

    def test_talk(self):
        desk = desk_of()
        lines = ["join al", "ask al file f 1", "turn al 0", "tree", "check", "flush"]
        kept = list(lines)
        spoken = talk(desk, lines)
        self.assertEqual(desk.client_names(), [])
        self.assertEqual(next(spoken), "ok")
        self.assertEqual(desk.client_names(), ["al"])
        self.assertEqual(desk.waiting_deeds("al"), [])
        self.assertEqual(list(spoken), ["ok", "done 2", ". folder 0 1 . 1\nf file 1 1 f", "clean", "safe"])
        self.assertEqual(lines, kept)
        self.assertEqual(list(talk(desk, [])), [])
        spoken = talk(desk, ["undo", "nonsense", "join bo"])
        self.assertEqual(next(spoken), "done 1")
        with self.assertRaises(BadText):
            next(spoken)
        self.assertEqual(desk.client_names(), ["al"])

    def test_lines_do_what_the_methods_do(self):
        chance = random.Random(101)
        for _ in range(10):
            desk, store = desk_of("join al"), Store(small_plan(), FULL)
            for _ in range(60):
                if chance.random() < 0.5:
                    deed, wish = random_deed(chance), chance.randrange(64)
                    if deed[0] in ("shut", "write"):
                        continue
                    say(desk, f"ask al {deed_text(deed)}")
                    answer = say(desk, f"turn al {wish}")
                    outcome = play(store, [("do", wish, deed)])[0]
                    if outcome[0] == "notlet":
                        say(desk, "leave al")
                        say(desk, "join al")
                    self.assertEqual(answer, " ".join(str(part) for part in outcome if part != ""))
                else:
                    for row in random_rows(chance, store):
                        if row[0] != "do":
                            answer = say(desk, row_text(row))
                            outcome = play(store, [row])[0]
                            self.assertEqual(answer, " ".join(str(part) for part in outcome if part != ""))
                self.assertEqual(say(desk, "tree"), rows_text(desk.rows()))


if __name__ == "__main__":
    unittest.main()
