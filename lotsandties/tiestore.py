"""The store without a log: files in the root, whose nodes and entries go to the disk one by one."""

from lotsandties.entries import BLOCK_ENTRIES, EMPTY_ENTRY, TIE_BASE, entry_cells, put_entry, tie_of
from lotsandties.errors import FolderFull, NameTaken, NodesFull, NoSuchName, NotLet
from lotsandties.fields import FILE, FIRST_PLACE, KIND, LINKS, MAKING, OWNER, ROOT, SIZE, SUMS_BLOCK, UNMADE
from lotsandties.folders import FOLDER_PLACES
from lotsandties.image import Image
from lotsandties.nodes import is_made, node_cell, put_node_cell, unmake_node
from lotsandties.places import place_block
from lotsandties.plan import Plan
from lotsandties.texts import code_name, name_code
from lotsandties.tietable import NEW, NONE, OLD, UNRECORDED


def _first_image(plan):
    """Return a fresh image whose root has the first two data blocks, without names."""
    image = Image.fresh(plan)
    for o in range(FOLDER_PLACES):
        x = plan.first_data + o
        block, cell = plan.map_place(x)
        image.cells[block][cell] = Plan.LOGGED
        put_node_cell(image, ROOT, FIRST_PLACE + o, x)
    image.cells[SUMS_BLOCK][node_cell(image, ROOT, OWNER)] = FOLDER_PLACES
    return Image.of_cells(plan, image.cells)


def _entry_of_root(image, j):
    """Return the code and the tie of an entry of the root of any image; where it has no block it is empty."""
    x = place_block(image, ROOT, j // BLOCK_ENTRIES)
    return entry_cells(image.cells, x, j % BLOCK_ENTRIES) if x else EMPTY_ENTRY


class TieStore:
    """A store without a log under a book of ties: its cache, its disk, and what it told."""

    ENTRIES = 8

    def __init__(self, plan, book):
        self.plan = plan
        self.book = book
        self.cache = _first_image(plan)
        self.home = [list(row) for row in self.cache.cells]
        # From nodes to the makings that were told safe.
        self.told_makings = {}

    @classmethod
    def resumed(cls, book, image):
        """Return a store that goes on from a mended image."""
        store = cls(image.plan, book)
        for n in range(ROOT + 1, store.plan.nodes + 1):
            block = store.plan.node_block(n)
            store.cache.cells[block] = list(image.cells[block])
        for j in range(cls.ENTRIES):
            store._put_entry(j, _entry_of_root(image, j))
        store.home = [list(row) for row in store.cache.cells]
        store.told_makings = store._makings()
        return store

    def __contains__(self, name):
        return any(name == known for known, _ in self.tied_names())

    def tied_names(self):
        """Return the tuples of name and node of the entries of the cache, in their order."""
        entries = [self._entry(self.cache.cells, j) for j in range(self.ENTRIES)]
        return [(code_name(code), tie % TIE_BASE) for code, tie in entries if (code, tie) != EMPTY_ENTRY]

    def make(self, name, owner, *, at=0):
        """Make a file and return its node."""
        self._check_not_taken(name)
        j = self._free_entry(at)
        n = self._free_node()
        making = node_cell(self.cache, n, MAKING) + 1
        for field, value in ((KIND, FILE), (LINKS, 1), (OWNER, owner), (MAKING, making)):
            put_node_cell(self.cache, n, field, value)
        self._put_entry(j, (name_code(name), tie_of(making, n)))
        return n

    def link(self, name, new, *, at=0):
        """Give the file of a name one more name and return the entry of it."""
        tie, j = self._new_entry(name, new, at)
        self._put_entry(j, (name_code(new), tie))
        n = tie % TIE_BASE
        put_node_cell(self.cache, n, LINKS, node_cell(self.cache, n, LINKS) + 1)
        return j

    def drop(self, name):
        """Remove a name and return its entry; a file without names is unmade."""
        j = self._named_entry(name)
        n = self._entry(self.cache.cells, j)[1] % TIE_BASE
        self._put_entry(j, EMPTY_ENTRY)
        links = node_cell(self.cache, n, LINKS) - 1
        put_node_cell(self.cache, n, LINKS, links)
        if links == 0:
            unmake_node(self.cache, n)
            self.told_makings.pop(n, None)
        return j

    def move(self, name, new, *, at=0):
        """Move a name to another entry and return this one."""
        tie, j = self._new_entry(name, new, at)
        old = self._named_entry(name)
        self._put_entry(j, (name_code(new), tie))
        self._put_entry(old, EMPTY_ENTRY)
        return j

    def out_node(self, n):
        """Copy the block of a node from the cache to the disk."""
        block = self.plan.node_block(n)
        self.home[block] = list(self.cache.cells[block])

    def out_entry(self, j):
        """Copy an entry from the cache to the disk."""
        entry = self._entry(self.cache.cells, j)
        if "first" in self.book and entry != EMPTY_ENTRY and not self._backs(self.home, entry[1]):
            raise NotLet("first")
        if "keep" in self.book and self._keeps(j):
            raise NotLet("keep")
        self._put(self.home, j, entry)

    def told(self):
        """Tell all files that are made safe."""
        if "told" in self.book and not self.agrees:
            raise NotLet("told")
        self.told_makings = self._makings()

    @property
    def agrees(self):
        """Tell if the disk has the entries and the makings of the cache."""
        cells = self.cache.cells
        if any(self._entry(cells, j) != self._entry(self.home, j) for j in range(self.ENTRIES)):
            return False
        return all(self._made(cells, n) == self._made(self.home, n) for n in self._file_nodes())

    def faults(self):
        """Return what a stop would lose or mix up."""
        wrong = [] if "numbered" in self.book else [("wrong", j) for j in range(self.ENTRIES) if self._is_wrong(j)]
        return wrong + [("gone", n) for n in sorted(list(self.told_makings)) if self._is_gone(n)]

    def cut(self):
        """Return the image that is found after a sudden stop."""
        return Image.of_cells(self.plan, self.home)

    def standing(self, n):
        """Return the standing of a node."""
        making = node_cell(self.cache, n, MAKING)
        ties = [self._entry(self.cache.cells, j)[1] for j in range(self.ENTRIES)]
        marks = [self._entry(self.home, j)[1] for j in range(self.ENTRIES)]
        return (
            1 if is_made(self.cache, n) else 0,
            tuple([1 if tie % TIE_BASE == n else 0 for tie in ties]),
            self._disk_sign(n, making),
            tuple([self._mark(tie, n, making) for tie in marks]),
            1 if n in self.told_makings else 0,
        )

    def _disk_sign(self, n, making):
        """Return the sign of the node on the disk."""
        made = self._made(self.home, n)
        if made is None:
            return UNRECORDED
        return NEW if made == making else OLD

    def _mark(self, tie, n, making):
        """Return the sign of an entry on the disk with this tie."""
        if tie % TIE_BASE != n:
            return NONE
        return NEW if tie == tie_of(making, n) else OLD

    def _file_nodes(self):
        return list(range(ROOT + 1, self.plan.nodes + 1))

    def _made(self, cells, n):
        """Return the making of a node that is made there, or None; cells are those of the cache or of the disk."""
        node = cells[self.plan.node_block(n)]
        return None if node[KIND] == UNMADE else node[MAKING]

    def _makings(self):
        makings = {n: self._made(self.cache.cells, n) for n in self._file_nodes()}
        return {n: making for n, making in makings.items() if making is not None}

    def _backs(self, cells, tie):
        n = tie % TIE_BASE
        return self._made(cells, n) == tie // TIE_BASE

    def _entry(self, cells, j):
        """Return the code and the tie of entry j, in the cells of the cache or of the disk."""
        return entry_cells(cells, self.plan.first_data + j // BLOCK_ENTRIES, j % BLOCK_ENTRIES)

    def _put(self, cells, j, entry):
        put_entry(cells, self.plan.first_data + j // BLOCK_ENTRIES, j % BLOCK_ENTRIES, entry)

    def _put_entry(self, j, entry):
        """Set entry j of the cache; the size of the root follows."""
        self._put(self.cache.cells, j, entry)
        put_node_cell(self.cache, ROOT, SIZE, len(self.tied_names()))

    def _named_entry(self, name):
        """Return the entry of the cache that has a name."""
        for j in range(self.ENTRIES):
            if code_name(self._entry(self.cache.cells, j)[0]) == name:
                return j
        raise NoSuchName(f"no entry has the name {name}")

    def _check_not_taken(self, name):
        codes = [self._entry(cells, j)[0] for cells in (self.cache.cells, self.home) for j in range(self.ENTRIES)]
        if name_code(name) in codes:
            raise NameTaken(f"an entry has the name {name}")

    def _free_entry(self, at):
        """Return the first empty entry of the cache, from a number on and then from 0 on."""
        for j in list(range(at, self.ENTRIES)) + list(range(at)):
            if self._entry(self.cache.cells, j) == EMPTY_ENTRY:
                return j
        raise FolderFull("no entry is empty")

    def _free_node(self):
        tied = [self._entry(self.home, j)[1] % TIE_BASE for j in range(self.ENTRIES)]
        for n in self._file_nodes():
            if not is_made(self.cache, n) and not ("after" in self.book and n in tied):
                return n
        raise NodesFull("there is no node for a file")

    def _new_entry(self, name, new, at):
        """Return the tie of a name, and the entry for a new name with this tie."""
        tie = self._entry(self.cache.cells, self._named_entry(name))[1]
        self._check_not_taken(new)
        return (tie, self._free_entry(at))

    def _keeps(self, j):
        """Tell if the rule keep keeps entry j on the disk."""
        tie = self._entry(self.home, j)[1]
        if tie == 0 or tie == self._entry(self.cache.cells, j)[1] or not self._backs(self.cache.cells, tie):
            return False
        others = [k for k in range(self.ENTRIES) if k != j and self._entry(self.home, k)[1] == tie]
        return all(self._entry(self.cache.cells, k)[1] != tie for k in others)

    def _is_wrong(self, j):
        tie = self._entry(self.home, j)[1]
        return tie != 0 and self._made(self.home, tie % TIE_BASE) not in (None, tie // TIE_BASE)

    def _is_gone(self, n):
        tie = tie_of(self.told_makings[n], n)
        ties = [self._entry(self.home, j)[1] for j in range(self.ENTRIES)]
        return not self._backs(self.home, tie) or tie not in ties
