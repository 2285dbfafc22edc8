"""How many free blocks a deed needs."""

from lotsandties.acting import do_deed
from lotsandties.errors import BlocksFull, OverQuota, Refused
from lotsandties.fields import PLACES
from lotsandties.folders import find_child, has_empty_entry, has_neighbours
from lotsandties.nodes import node_cell
from lotsandties.places import NODE_PLACES, place_block
from lotsandties.plan import Plan
from lotsandties.walks import walk_file, walk_parent

NO_ROOM = (0, 0)


def _is_refused(image, deed):
    """Tell if a deed is refused for another reason than a lack of blocks."""
    try:
        do_deed(image, deed)
    except (BlocksFull, OverQuota):
        return False
    except Refused:
        return True
    return False


def _entry_room(image, path):
    """Return how many blocks an entry for a new name needs."""
    folder, _ = walk_parent(image, path)
    return 0 if has_empty_entry(image, folder) else 1


def _rename_room(image, path, new):
    folder, name = walk_parent(image, path)
    target, new_name = walk_parent(image, new)
    if target == folder or find_child(image, target, new_name):
        return 0
    # A block that holds no other entry is freed before the new entry is added.
    return _entry_room(image, new) if has_neighbours(image, folder, name) else 0


def _write_room(image, path, at, words):
    n = walk_file(image, path)
    last = (at + len(words) - 1) // Plan.WIDTH
    holes = [o for o in range(at // Plan.WIDTH, last + 1) if place_block(image, n, o) == 0]
    lacks_places = node_cell(image, n, PLACES) == 0 and any(o >= NODE_PLACES for o in holes)
    return (1 if lacks_places else 0, len(holes))


def room_needed(image, deed):
    """Return how many logged and how many plain blocks must be free for a deed."""
    if _is_refused(image, deed):
        return NO_ROOM
    kind = deed[0]
    if kind in ("file", "folder"):
        return (_entry_room(image, deed[1]), 0)
    if kind == "sign":
        return (_entry_room(image, deed[1]) + 1, 0)
    if kind == "link":
        return (_entry_room(image, deed[2]), 0)
    if kind == "rename":
        return (_rename_room(image, deed[1], deed[2]), 0)
    if kind == "write":
        return _write_room(image, deed[1], deed[2], deed[3])
    return NO_ROOM
