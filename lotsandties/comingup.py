"""Coming up after a stop."""

from lotsandties.errors import PlaceBusy
from lotsandties.image import Image
from lotsandties.logreading import cells_found, found_marks, live_copies
from lotsandties.lots import Lot
from lotsandties.plan import Plan
from lotsandties.records import NO_SLOT
from lotsandties.store import Store

SURE = (1, 1)
UNKNOWN = (0, 0)


def _image_of(disk, live):
    return Image.of_cells(disk.plan, [cells_found(disk, x, live) for x in range(disk.plan.blocks)])


def image_after(disk, *, lapse):
    """Return the image that comes up from a disk."""
    return _image_of(disk, live_copies(found_marks(disk), lapse=lapse))


def _home_identity(disk, image, x):
    if image.kind(x) != Plan.FREE and disk.home[x] == tuple(image.cells[x]):
        return SURE
    return UNKNOWN


def _lot_of(slot, mark, live, image):
    number, pairs, revokes = mark[1:]
    lot = Lot(number, None)
    for x, place in pairs:
        if place != NO_SLOT:
            counts = live.get(x) == (number, place) and image.kind(x) == Plan.LOGGED
            lot.keep_copy(x, place, 0, SURE if counts else UNKNOWN)
    lot.keep_mark(slot, 0, revokes)
    return lot


def come_up(disk, book):
    """Return the store that goes on from a disk under a book."""
    if not disk.quiet:
        raise PlaceBusy("a write is pending")
    marks = found_marks(disk)
    live = live_copies(marks, lapse="lapse" in book)
    image = _image_of(disk, live)
    window = [_lot_of(slot, mark, live, image) for slot, mark in marks]
    home_ids = [_home_identity(disk, image, x) for x in range(disk.plan.blocks)]
    return Store.resumed(book, disk, image, disk.head + len(marks), window, home_ids)
