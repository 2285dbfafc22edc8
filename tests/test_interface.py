"""The names, arguments and kinds of values that the document's interface lists."""

import importlib
import inspect
import unittest

FUNCTIONS = {
    "texts": ["read_number(word, most)", "split_words(line)", "is_name(text)", "is_path(text)", "name_code(name)",
              "code_name(code)"],
    "deeds": ["check_deed(deed)", "deed_text(deed)", "read_deed(text)"],
    "rows": ["check_row(row)", "row_text(row)", "read_row(text)", "script_text(rows)", "read_script(text)"],
    "records": ["check_record(record)", "copy_record(lot, block, cells)", "mark_record(lot, copies, revokes=())",
                "fits_plan(record, plan)", "record_text(record)", "read_record(text)"],
    "cuts": ["keeps(numbers)", "cut_disks(disk)", "differences(first, second)"],
    "disktext": ["disk_text(disk)", "read_disk(text)"],
    "nodes": ["node_cell(image, n, field)", "put_node_cell(image, n, field, value)", "made_nodes(image)",
              "make_node(image, kind, owner)", "unmake_node(image, n)"],
    "places": ["place_block(image, n, o)", "take_place(image, n, o)", "take_logged(image, n, o)",
               "drop_place(image, n, o)", "held_blocks(image, *nodes)"],
    "sizes": ["unfinished(image, n)", "set_size(image, n, size)", "free_piece(image, n)", "listed(image)",
              "enlist(image, n)", "delist(image, n)"],
    "wordrows": ["read_words(image, n, at, count)", "file_words(image, n)", "write_words(image, n, at, words)"],
    "folders": ["folder_entries(image, n)", "find_child(image, n, name)", "add_entry(image, n, name, child)",
                "put_child(image, n, name, child)", "drop_entry(image, n, name)"],
    "signs": ["sign_path(image, n)", "put_sign_path(image, n, path)"],
    "walks": ["path_names(path)", "walk(image, path, *, follow=True)", "visited(image, path, *, follow=True)",
              "walk_parent(image, path)", "walk_file(image, path)", "is_inside(image, top, n)"],
    "naming": ["make_name(image, path, kind, owner, *, text='')", "resign_name(image, path, text)",
               "link_name(image, path, new)", "unlink_name(image, path)", "remove_folder(image, path)",
               "rename_name(image, path, new)"],
    "owners": ["used_blocks(image, owner)", "limit_of(image, owner)", "counted_blocks(image, owner)",
               "put_limit(image, owner, blocks)", "change_owner(image, n, owner)"],
    "room": ["room_needed(image, deed)"],
    "removing": ["begin_removal(image, n)", "one_piece(image, n)"],
    "acting": ["do_deed(image, deed, *, wish=0, barred=())", "do_deeds(image, *deeds, wish=0, barred=())"],
    "reading": ["read_tree(image)", "read_node_words(image, n)", "rows_text(rows)", "tree_text(image)"],
    "carrying": ["carried(image, plan)"],
    "rulings": ["due_blocks(image, committed)", "revoked_blocks(image, committed)",
                "new_plain_blocks(image, committed)", "same_logged(image, committed)",
                "present_number(number, image, committed, closing)", "live_lot(window, x, *, lapse)",
                "barred_blocks(book, committed, closing, window)",
                "unsent_blocks(image, committed, home_ids, busy)",
                "may_send_words(x, holding, committed, closing)",
                "may_leave(window, committed, home_ids, busy)", "may_tell(image, committed, home_ids, busy)"],
    "playing": ["play(store, rows)", "steps(store, rows)"],
    "storemoves": ["flush(store)"],
    "logreading": ["found_marks(disk)", "live_copy(marks, x, *, lapse)", "cells_after(disk, marks, x, *, lapse)",
                   "slots_read(disk, *, lapse)"],
    "comingup": ["image_after(disk, *, lapse)", "come_up(disk, book)"],
    "finishing": ["finish(store)"],
    "allcuts": ["cut_stores(store)", "cut_fault(store)"],
    "standings": ["kind_c(standing)", "kind_r(standing)", "content_c(standing)", "content_r(standing)",
                  "is_due(standing)", "is_standing(signs)", "is_bad(standing)"],
    "letters": ["after(standing, letter, book)", "let_letters(standing, book)", "standings_along(life, book)"],
    "judge": ["is_right(book)"],
    "sorting": ["least_books(base, names)", "mends(book)"],
    "partings": ["parting(book, other)", "plain_book(book)"],
    "lifetext": ["life_text(life)", "standing_text(standing)", "table_text(book)", "read_life(text)",
                 "read_standing(text)"],
    "lifescript": ["script_of(life, book, plan, x)"],
    "shadow": ["standing_of(store, x)", "deed_letters(before, image, x)"],
    "tietable": ["tie_start(entries)", "tie_letters(entries)", "tie_after(standing, letter, book)",
                 "tie_bad(standing, book)"],
    "tiejudge": ["tie_closed(book, *, entries=2)", "tie_shortest(book, *, entries=2)",
                 "tie_is_right(book, *, entries=2)", "tie_least(names, *, entries=2)"],
    "tiescript": ["tie_script(life)", "play_ties(store, rows)"],
    "findings": ["findings(image, *, numbered=True)"],
    "mending": ["losses(found)", "mended(image, *, numbered=True)"],
    "checking": ["is_clean(image)", "home_image(disk, plan)"],
    "undoing": ["backwards(image, deed)"],
    "deskrows": ["say(desk, line)", "talk(desk, lines)"],
}

GENERATORS = {"cuts": ["keeps", "cut_disks"], "walks": ["visited"], "playing": ["steps"], "allcuts": ["cut_stores"],
              "tietable": ["tie_letters"], "mending": ["losses"], "deskrows": ["talk"]}

METHODS = {
    ("plan", "Plan"): ["__init__(self, blocks, *, nodes, slots)", "read(line)", "text(self)", "map_place(self, x)",
                       "node_block(self, n)", "data_blocks(self)"],
    ("rulesets", "RuleSet"): ["__init__(self, names)", "__contains__(self, name)", "__iter__(self)", "text(self)"],
    ("books", "Book"): ["read(text)", "of_number(number)", "full()", "__or__(self, other)", "__sub__(self, other)"],
    ("image", "Image"): ["__init__(self, plan)", "fresh(plan)", "of_cells(plan, rows)", "begin(self, wish, barred)",
                         "settle(self, before)", "give(self, x, owner)", "twin(self)", "take(self, kind, owner)",
                         "free_blocks(self)", "kind(self, x)", "identity(self, x)"],
    ("disk", "Disk"): ["__init__(self, plan)", "of_image(cls, image)", "issue(self, place, what)",
                       "busy(self, place)", "pending(self)", "sure(self, number)", "barrier(self)",
                       "move_head(self, p)", "cut(self, keep=())", "twin(self)"],
    ("plaintree", "PlainTree"): ["__init__(self)", "do(self, deed)", "rows(self)", "text(self)"],
    ("chronicle", "Chronicle"): ["__init__(self, image, *, number=0)", "__contains__(self, number)",
                                 "note_deed(self, image)", "note_close(self, number, image)",
                                 "note_told(self, number)", "versions(self, x, holding)",
                                 "fault(self, number, image)"],
    ("lots", "Lot"): ["__init__(self, number, image)", "keep_copy(self, x, slot, write, identity)",
                      "keep_mark(self, slot, write, revokes)", "used_slots(self)"],
    ("store", "Store"): ["__init__(self, plan, book)",
                         "resumed(cls, book, disk, image, number, window, home_ids)", "pool(self, kind)",
                         "do(self, deed, *, wish=0)", "close(self)", "due(self)", "uncopied(self)", "copy(self, x)",
                         "mark(self)", "sure(self, w)", "barrier(self)", "home(self, x)", "early(self, x)",
                         "words(self, x)", "room(self)", "told(self)", "cut(self, keep)"],
    ("judge", "Table"): ["__init__(self, book)", "__contains__(self, standing)", "__iter__(self)", "closed(self)",
                         "shortest(self)", "life_to(self, standing)"],
    ("tiebooks", "TieBook"): ["read(text)", "of_number(number)", "full()", "__or__(self, other)",
                              "__sub__(self, other)"],
    ("tiestore", "TieStore"): ["__init__(self, plan, book)", "__contains__(self, name)", "tied_names(self)",
                               "make(self, name, owner, *, at=0)", "link(self, name, new, *, at=0)",
                               "drop(self, name)", "move(self, name, new, *, at=0)", "out_node(self, n)",
                               "out_entry(self, j)", "told(self)", "faults(self)", "cut(self)",
                               "resumed(cls, book, image)", "standing(self, n)"],
    ("desk", "Desk"): ["__init__(self, plan, book)", "join(self, name)", "ask(self, name, deed)", "leave(self, name)",
                       "save(self, label)", "drop(self, label)", "move(self, plan)", "turn(self, name, *, wish=0)",
                       "undo(self)", "flush(self)", "stop(self, keep)", "client_names(self)",
                       "waiting_deeds(self, name)", "open_nodes(self, name)", "rows(self)", "saved(self, label)",
                       "check(self)"],
}

STATIC = {("plan", "Plan"): ["read"], ("books", "Book"): ["read", "of_number", "full"],
          ("image", "Image"): ["fresh", "of_cells"], ("tiebooks", "TieBook"): ["read", "of_number", "full"]}

REFUSED = """NoSuchName NameTaken NotAFolder NotAFile NotASign FolderNotEmpty FolderFull NodesFull BlocksFull
    OverQuota TooLong TooManyLinks TooManySigns IntoItself Unfinished ListFull RootFixed NotOnList NotOpen InUse"""
NOT_NOW = """LotClosing NoLotClosing NotDue MarkIssued NotHeld PlaceBusy NoWrite LogFull LogEmpty NothingToUndo"""


def load(module):
    return importlib.import_module(f"lotsandties.{module}")


def written(name, function):
    return f"{name}{inspect.signature(function)}"


class InterfaceTest(unittest.TestCase):
    def test_functions_stand_in_their_files(self):
        for module, forms in FUNCTIONS.items():
            for form in forms:
                name = form.split("(")[0]
                function = getattr(load(module), name)
                self.assertEqual(function.__module__, f"lotsandties.{module}")
                self.assertEqual(written(name, function), form)
                generator = name in GENERATORS.get(module, [])
                self.assertEqual(inspect.isgeneratorfunction(function), generator, form)

    def test_methods_stand_in_their_classes(self):
        for (module, name), forms in METHODS.items():
            owner = getattr(load(module), name)
            self.assertEqual(owner.__module__, f"lotsandties.{module}")
            for form in forms:
                method = vars(owner)[form.split("(")[0]]
                static = form.split("(")[0] in STATIC.get((module, name), [])
                self.assertEqual(isinstance(method, staticmethod), static, form)
                function = method.__func__ if isinstance(method, (staticmethod, classmethod)) else method
                self.assertEqual(written(form.split("(")[0], function), form)

    def test_other_parts_of_classes(self):
        disk = load("disk").Disk
        self.assertIsInstance(vars(disk)["quiet"], property)
        self.assertIsInstance(vars(disk)["of_image"], classmethod)
        store = load("store").Store
        self.assertIsInstance(vars(store)["present"], property)
        self.assertIsInstance(vars(store)["resumed"], classmethod)
        self.assertIsInstance(vars(load("judge").Table)["right"], property)
        ties = load("tiestore").TieStore
        self.assertIsInstance(vars(ties)["agrees"], property)
        self.assertIsInstance(vars(ties)["resumed"], classmethod)
        self.assertEqual(vars(ties)["ENTRIES"], 8)
        for module, name in (("books", "Book"), ("tiebooks", "TieBook")):
            self.assertEqual(getattr(load(module), name).__bases__, (load("rulesets").RuleSet,))

    def test_errors(self):
        errors = load("errors")
        self.assertEqual(errors.StoreError.__bases__, (ValueError,))
        for name in ("BadText", "BadValue", "Refused", "NotNow", "NotLet"):
            self.assertEqual(getattr(errors, name).__bases__, (errors.StoreError,))
        for base, names in ((errors.Refused, REFUSED), (errors.NotNow, NOT_NOW)):
            for name in names.split():
                error = getattr(errors, name)
                self.assertEqual(error.__bases__, (base,))
                self.assertEqual(error.__module__, "lotsandties.errors")
                self.assertEqual(str(error("why")), "why")
        self.assertEqual(errors.NotLet("frozen").rule, "frozen")
        self.assertIsInstance(str(errors.NotLet("frozen")), str)


if __name__ == "__main__":
    unittest.main()
