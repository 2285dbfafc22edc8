"""The store: deeds on a running image, and the steps that bring their results to a disk."""

from lotsandties.acting import do_deed
from lotsandties.chronicle import Chronicle
from lotsandties.disk import Disk
from lotsandties.errors import (
    LogEmpty,
    LogFull,
    LotClosing,
    MarkIssued,
    NoLotClosing,
    NotDue,
    NotHeld,
    NotLet,
)
from lotsandties.image import Image
from lotsandties.lots import Lot
from lotsandties.plan import Plan
from lotsandties.records import NO_SLOT, copy_record, mark_record
from lotsandties.rulings import (
    barred_blocks,
    due_blocks,
    may_leave,
    may_send_words,
    may_tell,
    present_number,
    revoked_blocks,
    unsent_blocks,
)


def _holds(image, x, kind):
    return x < image.plan.blocks and image.kind(x) == kind


class Store:
    """A store under a book of rules."""

    def __init__(self, plan, book):
        self.plan = plan
        self.book = book
        self.image = Image.fresh(plan)
        self.committed = Image.fresh(plan)
        self.number = 0
        self.closing = None
        self.window = []
        self.disk = Disk.of_image(self.image)
        self.home_ids = [self.image.identity(x) for x in range(plan.blocks)]
        self.chronicle = Chronicle(self.image)
        # From pending writes to homes to the tuples of block and identity with which they were issued.
        self._sent = {}

    @classmethod
    def resumed(cls, book, disk, image, number, window, home_ids):
        """Return a store that goes on after a stop."""
        store = cls(image.plan, book)
        store.image = image.twin()
        store.committed = image.twin()
        store.number = number
        store.window = list(window)
        store.disk = disk.twin()
        store.home_ids = list(home_ids)
        store.chronicle = Chronicle(image, number=number)
        return store

    @property
    def present(self):
        """The number of the lot that has all deeds done so far."""
        return present_number(self.number, self.image, self.committed, self._closing_image())

    def pool(self, kind):
        """Return the free blocks that may be given out for a kind."""
        free = self.image.free_blocks()
        barred = self._barred() if kind == Plan.PLAIN else []
        return [x for x in free if x not in barred]

    def do(self, deed, *, wish=0):
        """Do a deed on the running image and return its answer."""
        image, answer = do_deed(self.image, deed, wish=wish, barred=self._barred())
        self._check_wait(self.image, image)
        self.image = image
        self.chronicle.note_deed(image)
        return answer

    def check_deeds(self, deeds):
        """Raise the error that one of several deeds would raise if they were done one after the other."""
        images = [self.image]
        for deed in deeds:
            images.append(do_deed(images[-1], deed, barred=self._barred())[0])
        for before, image in zip(images, images[1:]):
            self._check_wait(before, image)

    def close(self):
        """Close the running lot."""
        if self.closing is not None:
            raise LotClosing("a lot is closing")
        self.closing = Lot(self.number + 1, self.image.twin())
        self.chronicle.note_close(self.closing.number, self.image)

    def due(self):
        """Return the blocks of the closing lot that are to be copied."""
        return [] if self.closing is None else due_blocks(self.closing.image, self.committed)

    def uncopied(self):
        """Return the due blocks whose copy is not surely in the log."""
        pending = [write[0] for write in self.disk.pending()]
        return [x for x in self.due() if x not in self.closing.copies or self.closing.copies[x][1] in pending]

    def copy(self, x):
        """Issue the copy of a due block to the log."""
        lot = self._open_lot()
        if x not in self.due() or x in lot.copies:
            raise NotDue(f"block {x} is not due, or its copy was issued")
        slot = self._free_slot()
        image = lot.image if "frozen" in self.book else self.image
        write = self.disk.issue(("log", slot), copy_record(lot.number, x, image.cells[x]))
        lot.keep_copy(x, slot, write, image.identity(x))
        return write

    def mark(self):
        """Issue the mark of the closing lot to the log."""
        lot = self._open_lot()
        if "copies" in self.book and self.uncopied():
            raise NotLet("copies")
        if "words" in self.book and unsent_blocks(lot.image, self.committed, self.home_ids, self._busy()):
            raise NotLet("words")
        slot = self._free_slot()
        pairs = [(x, lot.copies[x][0] if x in lot.copies else NO_SLOT) for x in self.due()]
        revokes = revoked_blocks(lot.image, self.committed) if "revoke" in self.book else []
        write = self.disk.issue(("log", slot), mark_record(lot.number, pairs, revokes))
        lot.keep_mark(slot, write, revokes)
        return write

    def sure(self, w):
        """Make a pending write sure."""
        self.disk.sure(w)
        if w in self._sent:
            x, identity = self._sent.pop(w)
            self.home_ids[x] = identity
        if self.closing is not None and self.closing.mark == w:
            self._commit()

    def barrier(self):
        """Make all pending writes sure, in the order of issue."""
        writes = [write[0] for write in self.disk.pending()]
        for w in writes:
            self.sure(w)

    def home(self, x):
        """Issue the committed cells of a logged block to its home."""
        if not _holds(self.committed, x, Plan.LOGGED):
            raise NotHeld(f"the committed image does not hold block {x} logged")
        return self._send(x, self.committed)

    def early(self, x):
        """Issue the running cells of a logged block to its home."""
        if not _holds(self.image, x, Plan.LOGGED):
            raise NotHeld(f"the running image does not hold block {x} logged")
        if "mark" in self.book and self.image.identity(x) != self.committed.identity(x):
            raise NotLet("mark")
        return self._send(x, self.image)

    def words(self, x):
        """Issue the cells of a plain block to its home."""
        image = self._plain_image(x)
        if "late" in self.book:
            if not may_send_words(x, image.holdings[x], self.committed, self._closing_image()):
                raise NotLet("late")
        return self._send(x, image)

    def room(self):
        """Let the oldest lot leave the window."""
        if len(self.window) == 0:
            raise LogEmpty("the window has no lot")
        if "room" in self.book and not may_leave(self.window, self.committed, self.home_ids, self._busy()):
            raise NotLet("room")
        lot = self.window.pop(0)
        self.disk.move_head(lot.number)

    def told(self):
        """Tell all deeds done so far safe."""
        if "told" in self.book:
            if self.closing is not None:
                raise NotLet("told")
            if not may_tell(self.image, self.committed, self.home_ids, self._busy()):
                raise NotLet("told")
        self.chronicle.note_told(self.present)

    def cut(self, keep):
        """Return the disk that is found after a sudden stop."""
        return self.disk.cut(keep)

    def _check_wait(self, before, image):
        """Raise NotLet if a deed that makes one image from another changes a block that is still to be copied."""
        if "wait" in self.book:
            for x in self.uncopied():
                if image.identity(x) != before.identity(x):
                    raise NotLet("wait")

    def _closing_image(self):
        return None if self.closing is None else self.closing.image

    def _barred(self):
        return barred_blocks(self.book, self.committed, self._closing_image(), self.window)

    def _busy(self):
        """Return the blocks with a pending write to their homes."""
        places = [write[1] for write in self.disk.pending()]
        return [at for kind, at in places if kind == "home"]

    def _open_lot(self):
        """Return the closing lot, which has no mark yet."""
        if self.closing is None:
            raise NoLotClosing("no lot is closing")
        if self.closing.mark != 0:
            raise MarkIssued("the mark of the closing lot was issued")
        return self.closing

    def _free_slot(self):
        """Return the lowest free slot of the log."""
        used = self.closing.used_slots()
        for lot in self.window:
            used = used + lot.used_slots()
        for slot in range(self.plan.slots):
            if slot not in used and not self.disk.busy(("log", slot)):
                return slot
        raise LogFull("no slot of the log is free")

    def _plain_image(self, x):
        """Return the image whose words of the plain block x go home."""
        closing = self._closing_image()
        if _holds(self.image, x, Plan.PLAIN):
            return self.image
        if closing is not None and _holds(closing, x, Plan.PLAIN):
            return closing
        raise NotHeld(f"neither image holds block {x} plain")

    def _send(self, x, image):
        write = self.disk.issue(("home", x), image.cells[x])
        self._sent[write] = (x, image.identity(x))
        return write

    def _commit(self):
        """Let the closing lot become the last one of the window."""
        lot = self.closing
        self.committed = lot.image
        self.number = lot.number
        self.window.append(lot)
        self.closing = None
