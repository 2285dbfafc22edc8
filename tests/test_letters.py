import itertools
import unittest

from storing import without

from lotsandties.books import Book
from lotsandties.errors import BadValue
from lotsandties.letters import after, let_letters, standings_along
from lotsandties.standings import LETTERS, LOST, START, is_standing

NONE = Book(())
FULL = Book.full()


def signs(text):
    return LOST if text == "lost" else tuple(text)


def only(*rules):
    return Book(rules)


class LettersTest(unittest.TestCase):
    def leads(self, letter, *cases, book=NONE):
        """Each case is the text of a standing and that of the standing behind the letter, or None."""
        for text, found in cases:
            self.assertTrue(is_standing(signs(text)), text)
            wanted = None if found is None else signs(found)
            self.assertEqual(after(signs(text), letter, book), wanted, f"{text} {letter} {book.text()}")

    def test_takel(self):
        for book in (NONE, FULL):
            self.leads("takel", ("F-=o--", "F-Lo--"), ("L-FKK-", "L-LKK-"), ("LF=KK-", "LFLKK-"), ("FLFo-+", "FLLo-+"),
                       ("F==oo-", "F=Loo-"), ("L-=K--", None), ("P-=K--", None), ("F-Lo--", None), ("LFPK--", None),
                       ("L~~K--", None), book=book)

    def test_takep(self):
        self.leads("takep", ("F-=o--", "F-Po--"), ("L-FKK-", "L-PKK-"), ("LF=oK-", "LFPoK-"), ("FLFC-+", "FLPC-+"),
                   ("F-=oo-", "F-Poo-"), ("L-=K--", None), ("P-=K--", None), ("F-Lo--", None), ("F-Po--", None))

    def test_takep_and_the_rules_that_bar_blocks(self):
        self.leads("takep", ("F-=oo-", "F-Poo-"), ("F==o--", "F=Po--"), ("L-FK--", None), ("P-FK--", None),
                   ("LF=K--", None), ("PF=K--", None), ("FLFo--", None), ("FPFo--", None), book=only("reuse"))
        self.leads("takep", ("F-=o--", "F-Po--"), ("F-=oo-", None), ("L-FKK-", None), ("L-FK--", "L-PK--"),
                   ("FLFo--", "FLPo--"), book=only("shelve"))
        self.leads("takep", ("L-FKK-", None), ("F-=oo-", None), book=only("reuse", "shelve"))
        self.leads("takep", ("L-FKK-", "L-PKK-"), ("F-=oo-", "F-Poo-"), book=without("reuse", "shelve"))

    def test_change(self):
        self.leads("change", ("L-=KK-", "L-~KK-"), ("L-~RK-", "L-~oK-"), ("L-~KK-", "L-~KK-"), ("F-LR--", "F-Lo--"),
                   ("F-Lo--", "F-Lo--"), ("L~=CK-", "L~~CK-"), ("L~~RK+", "L~~oK+"), ("LLLRK-", "LLLoK-"),
                   ("FL=o--", "FL~o--"), ("P-LR--", "P-Lo--"), ("F-=o--", None), ("P-=K--", None), ("L-FK--", None),
                   ("LP=K--", None))

    def test_free(self):
        self.leads("free", ("L-=KK-", "L-FKK-"), ("L-~RK-", "L-FoK-"), ("F-LR--", "F-=o--"), ("F-Po--", "F-=o--"),
                   ("P-=K--", "P-FK--"), ("P-LR--", "P-Fo--"), ("LFPRK-", "LF=oK-"), ("L~~CK-", "L~FCK-"),
                   ("FL=C--", "FLFC--"), ("FP=o--", "FPFo--"), ("FPPR--", "FPFo--"), ("F-=o--", None),
                   ("L-FK--", None), ("LF=K--", None))

    def test_wait(self):
        for book in (only("wait"), FULL):
            self.leads("change", ("FL=o--", None), ("L~=KK-", None), ("L~~KK-", None), ("FL=o-+", "FL~o-+"),
                       ("L~~RK!", "L~~oK!"), ("L==KK-", "L=~KK-"), ("L-=KK-", "L-~KK-"), book=book)
            self.leads("free", ("FL=o--", None), ("L~=KK-", None), ("FLPR--", None), ("FL=o-+", "FLFo-+"),
                       ("FL=o-!", "FLFo-!"), ("FP=C--", "FPFC--"), ("L-~KK-", "L-FKK-"), book=book)
        self.leads("change", ("FL=o--", "FL~o--"), ("L~=KK-", "L~~KK-"), book=without("wait"))
        self.leads("free", ("FL=o--", "FLFo--"), ("L~=KK-", "L~FKK-"), book=without("wait"))

    def test_close(self):
        for book in (NONE, FULL):
            self.leads("close", ("F-=o--", "F==o--"), ("F-LR--", "FL=C--"), ("F-Po--", "FP=o--"), ("L-~KK-", "L~=KK-"),
                       ("L-~RK-", "L~=CK-"), ("L-FKK-", "LF=KK-"), ("P-=K--", "P==K--"), ("F==o--", None),
                       ("L~=KK-", None), ("LFLKK-", None), book=book)

    def test_copy(self):
        self.leads("copy", ("FL=o--", "FL=o-+"), ("L~=KK-", "L~=KK+"), ("FL~o--", "FL~o-!"), ("FLFo--", "FLFo-!"),
                   ("L~~RK-", "L~~RK!"), ("FLPo--", "FLPo-!"), ("FL=o-+", None), ("FL=o-!", None), ("F-Lo--", None),
                   ("FP=o--", None), ("LF=KK-", None), ("L==KK-", None))
        self.leads("copy", ("FL=o--", "FL=o-+"), ("FL~o--", "FL~o-+"), ("FLFo--", "FLFo-+"), ("L~~RK-", "L~~RK+"),
                   ("FL~o-+", None), ("F=Lo--", None), book=only("frozen"))

    def test_mark_without_change(self):
        for book in (NONE, FULL):
            self.leads("mark", ("F==o--", "F-=o--"), ("F==oo-", "F-=oo-"), ("L==KK-", "L-=KK-"), ("L==K--", "L-=K--"),
                       ("L=~RK-", "L-~RK-"), ("P=FK--", "P-FK--"), ("F-=o--", None), ("L-~KK-", None), book=book)

    def test_mark_of_a_logged_block(self):
        self.leads("mark", ("FL=o-+", "L-=oK-"), ("FL=C-+", "L-=KK-"), ("FL=o-!", "L-=oo-"), ("FL=C-!", "L-=Ko-"),
                   ("FL=o--", "L-=oo-"), ("FLFoo+", "L-FoK-"), ("L~=KK+", "L-=oK-"), ("L~~RK+", "L-~RK-"),
                   ("L~~CK+", "L-~KK-"), ("PL=K-+", "L-=oK-"), ("LL=KK+", "L-=oK-"),
                   ("LLPRK+", "L-PRK-"), ("LL=KK!", "L-=oo-"), ("LL=KK-", "L-=oo-"))

    def test_mark_of_a_plain_or_freed_block(self):
        self.leads("mark", ("FP=C--", "P-=K--"), ("FP=o--", "P-=o--"), ("FPLR--", "P-LR--"), ("FP=Co-", "P-=Ko-"),
                   ("LP=KK-", "P-=oo-"), ("LP=CK-", "P-=Ko-"), ("LP=C--", "P-=K--"), ("PP=C--", "P-=K--"),
                   ("PP=K--", "P-=o--"), ("LF=KK-", "F-=oo-"), ("LF=K--", "F-=o--"), ("LF=Ko-", "F-=oo-"),
                   ("PF=K--", "F-=o--"), ("LFLRK-", "F-LRo-"))

    def test_revoke(self):
        for book in (only("revoke"), only("revoke", "lapse")):
            self.leads("mark", ("LP=KK-", "P-=o--"), ("LP=CK-", "P-=K--"), ("LF=KK-", "F-=o--"), ("LF=Ko-", "F-=o--"),
                       ("FP=Co-", "P-=Ko-"), ("PF=Ko-", "F-=oo-"), ("L~=KK+", "L-=oK-"), ("FL=oo+", "L-=oK-"),
                       ("F==oo-", "F-=oo-"), ("L==KK-", "L-=KK-"), book=book)
        self.leads("mark", ("LL=KK+", "L-=o--"), ("LL=CK+", "L-=K--"), ("LL=KK!", "L-=o--"), ("PL=K-+", "L-=oK-"),
                   book=only("revoke"))
        self.leads("mark", ("LL=KK+", "L-=oK-"), ("LL=KK!", "L-=oo-"), ("LL=KK-", "L-=oo-"),
                   book=only("revoke", "lapse"))
        self.leads("mark", ("LL=KK+", "L-=oK-"), ("LF=KK-", "F-=oo-"), book=only("lapse"))

    def test_what_mark_waits_for(self):
        self.leads("mark", ("FL=o--", None), ("L~=KK-", None), ("FL=o-!", "L-=oo-"), ("FL=o-+", "L-=oK-"),
                   ("FP=o--", "P-=o--"), ("LF=KK-", "F-=oo-"), book=only("copies"))
        self.leads("mark", ("FP=o--", None), ("LP=KK-", None), ("FPPR--", None), ("FP=C--", "P-=K--"),
                   ("FL=o--", "L-=oo-"), ("P==o--", "P-=o--"), book=only("words"))

    def test_home(self):
        for book in (NONE, FULL):
            self.leads("home", ("L-=oK-", "L-=KK-"), ("L-=KK-", "L-=KK-"), ("L-~RK-", "L-~KK-"), ("LF=oK-", "LF=KK-"),
                       ("LP=CK-", "LP=KK-"), ("F-=o--", None), ("P-=K--", None), ("FL=o--", None), book=book)

    def test_early(self):
        self.leads("early", ("F-Lo--", "F-LR--"), ("L-~KK-", "L-~RK-"), ("L~=KK-", "L~=CK-"), ("FL=o--", "FL=C--"),
                   ("FL~C--", "FL~R--"), ("LFLKK-", "LFLRK-"), ("L-=oK-", None), ("L==oK-", None), ("F-=o--", None),
                   ("F-Po--", None), ("FLFo--", None))
        for book in (only("mark"), FULL):
            self.leads("early", ("F-Lo--", None), ("L-~KK-", None), ("FL=o--", None), book=book)
        self.leads("early", ("F-Lo--", "F-LR--"), book=without("mark"))

    def test_words(self):
        self.leads("words", ("F-Po--", "F-PR--"), ("P-=o--", "P-=K--"), ("FP=o--", "FP=C--"), ("P==o--", "P==K--"),
                   ("L-PKK-", "L-PRK-"), ("FPPC--", "FPPR--"), ("FLPC--", "FLPR--"), ("FPFo--", "FPFC--"),
                   ("FPLR--", "FPLC--"), ("P=Fo--", "P=FK--"), ("P=LR--", "P=LK--"), ("P-Fo--", None),
                   ("P-LR--", None), ("F-=o--", None), ("F-Lo--", None), ("LF=KK-", None), ("L-=KK-", None),
                   ("LPFKK-", "LPFCK-"), ("PPLK--", "PPLC--"))

    def test_late(self):
        for book in (only("late"), without("reuse", "shelve")):
            self.leads("words", ("F-Po--", "F-PR--"), ("P-=o--", "P-=K--"), ("FP=o--", "FP=C--"), ("P==o--", "P==K--"),
                       ("F=Po--", "F=PR--"), ("FPFo--", "FPFC--"), ("FPLR--", "FPLC--"), ("P=Fo--", "P=FK--"),
                       ("L-PKK-", None), ("P-PK--", None), ("LFPKK-", None), ("LP=KK-", None), ("FPPC--", None),
                       ("FLPC--", None), ("PP=K--", None), ("LPFKK-", None), ("PPLK--", None), book=book)

    def test_room(self):
        self.leads("room", ("L-=KK-", "L-=K--"), ("L-=oK-", "L-=o--"), ("F-=oo-", "F-=o--"), ("L~~RK+", "L~~R-+"),
                   ("F-=o--", None), ("L-=K--", None))
        for book in (only("room"), FULL):
            self.leads("room", ("L-=KK-", "L-=K--"), ("L-=oK-", None), ("L-~RK-", None), ("F-=oo-", "F-=o--"),
                       ("LF=KK-", "LF=K--"), ("F-=o--", None), book=book)

    def test_told(self):
        for book in (NONE, FULL):
            self.leads("told", ("F-=o--", "F-=o--"), ("L-=KK-", "L-=KK-"), ("P-=K--", "P-=K--"), book=book)
        changed = ("F-Lo--", "F==o--", "FL=o--", "L-~KK-", "L==KK-", "P=FK--")
        self.leads("told", *[(text, "lost") for text in changed])
        self.leads("told", *[(text, "lost") for text in changed], book=without("told"))
        self.leads("told", *[(text, None) for text in changed], book=only("told"))

    def test_at_lost_nothing_is_let(self):
        for book in (NONE, FULL):
            for letter in LETTERS:
                self.assertIsNone(after(LOST, letter, book))
            self.assertEqual(let_letters(LOST, book), [])

    def test_no_letters(self):
        for standing in (START, LOST):
            for text in ("", "take", "Takel", "takel ", "none", "lost", "frozen"):
                with self.assertRaises(BadValue):
                    after(standing, text, FULL)

    def test_letters_lead_to_standings(self):
        books = [NONE, FULL, only("frozen"), only("revoke"), only("revoke", "lapse"), without("mark", "told")]
        for standing in itertools.product("FLP", "-=~FLP", "=~FLP", "KCRo", "-Ko", "-+!"):
            if is_standing(standing):
                for book in books:
                    for letter in let_letters(standing, book):
                        self.assertTrue(is_standing(after(standing, letter, book)), (standing, letter, book.text()))

    def test_let_letters_in_order(self):
        self.assertEqual(let_letters(START, FULL), ["takel", "takep", "close", "told"])
        self.assertEqual(let_letters(signs("L~~RK-"), NONE), ["change", "free", "copy", "mark", "home", "early", "room",
                                                              "told"])
        self.assertEqual(let_letters(signs("L~~RK-"), FULL), ["copy", "home"])
        letters = let_letters(START, FULL)
        letters.clear()
        self.assertEqual(let_letters(START, FULL), ["takel", "takep", "close", "told"])

    def test_standings_along(self):
        life = ["takel", "close", "copy", "mark", "home", "room"]
        texts = ["F-=o--", "F-Lo--", "FL=o--", "FL=o-+", "L-=oK-", "L-=KK-", "L-=K--"]
        self.assertEqual(standings_along(life, FULL), [signs(text) for text in texts])
        self.assertEqual(life, ["takel", "close", "copy", "mark", "home", "room"])
        self.assertEqual(standings_along([], FULL), [START])
        # A life goes on behind bad standings, but not behind the lost one.
        self.assertEqual(standings_along(["takel", "close", "mark", "room"], NONE)[-1], signs("L-=o--"))
        self.assertEqual(standings_along(["takel", "told"], NONE)[-1], LOST)
        for bad, book in ((["take"], NONE), (["takel", "takel"], NONE), (["takel", "told"], FULL),
                          (["takel", "told", "told"], NONE), (["takel", "told", "tell"], NONE), (["mark"], NONE)):
            with self.assertRaises(BadValue):
                standings_along(bad, book)


if __name__ == "__main__":
    unittest.main()
