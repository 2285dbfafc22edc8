import itertools
import unittest

from storing import without

from lotsandties.books import Book
from lotsandties.errors import BadText, BadValue
from lotsandties.judge import Table
from lotsandties.letters import let_letters
from lotsandties.lifetext import life_text, read_life, read_standing, standing_text, table_text
from lotsandties.standings import LETTERS, LOST, START, is_standing

FULL = Book.full()


class LifeTextTest(unittest.TestCase):
    def test_lives(self):
        for life, text in (([], "none"), (["takel"], "takel"), (["takel", "told"], "takel told"),
                           (["told", "told", "mark"], "told told mark"), (list(LETTERS), " ".join(LETTERS))):
            kept = list(life)
            self.assertEqual(life_text(life), text)
            self.assertEqual(read_life(text), life)
            self.assertEqual(life, kept)

    def test_wrong_lives(self):
        for life in (["take"], ["takel", ""], ["none"], ["takel told"], ["lost"], ["takel", "Told"]):
            with self.assertRaises(BadValue):
                life_text(life)

    def test_wrong_texts_of_lives(self):
        for text in ("", " ", "takel ", " takel", "takel  told", "take", "none none", "none takel", "takel none",
                     "takel\ntold", "Takel", "takel,told", "None", "takel\n"):
            with self.assertRaises(BadText):
                read_life(text)


class StandingTextTest(unittest.TestCase):
    def test_all_standings(self):
        self.assertEqual(standing_text(START), "F-=o--")
        self.assertEqual(standing_text(LOST), "lost")
        self.assertEqual(read_standing("F-=o--"), START)
        self.assertEqual(read_standing("lost"), LOST)
        for signs in itertools.product("FLP", "-=~FLP", "=~FLP", "KCRo", "-Ko", "-+!"):
            if is_standing(signs):
                self.assertEqual(read_standing(standing_text(signs)), signs)
            else:
                with self.assertRaises(BadValue):
                    standing_text(signs)
                with self.assertRaises(BadText):
                    read_standing("".join(signs))

    def test_wrong_standings(self):
        for signs in ((), ("F",), ("F-=o--",), START + ("-",), START[:5], ("LOST",), LOST + LOST, ("l", "o", "s", "t")):
            with self.assertRaises(BadValue):
                standing_text(signs)

    def test_wrong_texts_of_standings(self):
        for text in ("", "F", "F-=o-", "F-=o---", "F-=o-- ", " F-=o--", "f-=o--", "Lost", "lost ", "F - = o - -",
                     "F-=o--\n", "lost--", "------"):
            with self.assertRaises(BadText):
                read_standing(text)


class TableTextTest(unittest.TestCase):
    def test_the_full_book(self):
        lines = table_text(FULL).split("\n")
        self.assertEqual(lines[0], "book copies mark words reuse late revoke lapse shelve frozen wait room told")
        self.assertEqual(lines[1], "right")
        self.assertEqual(lines[2], "  1 F-=o-- takel takep close told")
        self.assertEqual(lines[3], "  2 F-Lo-- change free close")
        self.assertEqual(lines[11], " 10 FL=o-+ change free mark")

    def test_a_wrong_book(self):
        lines = table_text(without("told")).split("\n")
        self.assertEqual(lines[0], "book copies mark words reuse late revoke lapse shelve frozen wait room")
        self.assertEqual(lines[1], "wrong takel told")
        lines = table_text(Book(())).split("\n")
        self.assertEqual(lines[:2], ["book none", "wrong takel told"])
        self.assertEqual(lines[101].split(" ")[0], "100")

    def test_all_lines(self):
        for number in (0, 1, 700, 2048, 3333, 4095):
            book = Book.of_number(number)
            lines = table_text(book).split("\n")
            table = Table(book)
            self.assertEqual(len(lines), 2 + len(table.closed()))
            for k, standing in enumerate(table):
                words = [str(k + 1).rjust(3), "".join(standing), *let_letters(standing, book)]
                self.assertEqual(lines[k + 2], " ".join(words))


if __name__ == "__main__":
    unittest.main()
