"""Reading the log of a disk: marks, and the copies that count.

`marks` is everywhere a list of tuples of slot and mark, ascending by lot.
"""

from lotsandties.plan import Plan
from lotsandties.records import NO_SLOT


def found_marks(disk):
    """Return the slots and marks of the lots behind the head, up to the first lot without a mark."""
    slots = {}
    for slot, record in enumerate(disk.log):
        if record is not None and record[0] == "mark" and record[1] not in slots:
            slots[record[1]] = slot
    marks = []
    lot = disk.head + 1
    while lot in slots:
        marks.append((slots[lot], disk.log[slots[lot]]))
        lot += 1
    return marks


def live_copies(marks, *, lapse):
    """Return the dict from blocks to the tuples of lot and slot of their last copies, without struck ones."""
    live = {}
    for _, mark in marks:
        lot, pairs, revokes = mark[1:]
        for x in revokes:
            live.pop(x, None)
        for x, slot in pairs:
            if lapse or x not in revokes:
                live[x] = (lot, slot)
    return live


def live_copy(marks, x, *, lapse):
    """Return the lot and the slot of the last copy of block x that is not struck, or None."""
    return live_copies(marks, lapse=lapse).get(x)


def cells_found(disk, x, live):
    """Return the cells of block x that come up, with the live copies of all blocks."""
    if x not in live:
        return disk.home[x]
    lot, slot = live[x]
    # The marks may be those of another disk, with more slots.
    record = disk.log[slot] if 0 <= slot < len(disk.log) else None
    if record is not None and record[:3] == ("copy", lot, x):
        return record[3]
    return (0,) * Plan.WIDTH


def cells_after(disk, marks, x, *, lapse):
    """Return the cells of block x that come up."""
    return cells_found(disk, x, live_copies(marks, lapse=lapse))


def slots_read(disk, *, lapse):
    """Return the slots that have an effect on what comes up, ascending."""
    marks = found_marks(disk)
    live = live_copies(marks, lapse=lapse)
    slots = [slot for slot, _ in marks] + [slot for _, slot in live.values()]
    return sorted({slot for slot in slots if slot != NO_SLOT})
