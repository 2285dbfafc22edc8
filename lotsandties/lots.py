"""Lots: the deeds between two closings, on their way to the log."""

from lotsandties.records import NO_SLOT


class Lot:
    """A closed lot: its image, its copies and its mark."""

    def __init__(self, number, image):
        self.number = number
        self.image = image
        # From blocks to the tuples of slot and write of their copies, and to the identities of what was copied.
        self.copies = {}
        self.identities = {}
        self.mark = 0
        self.mark_slot = NO_SLOT
        self.revokes = ()

    def keep_copy(self, x, slot, write, identity):
        """Keep the copy of block x."""
        self.copies[x] = (slot, write)
        self.identities[x] = identity

    def keep_mark(self, slot, write, revokes):
        """Keep the mark and the blocks that it revokes."""
        self.mark = write
        self.mark_slot = slot
        self.revokes = tuple(revokes)

    def used_slots(self):
        """Return the slots of the copies and of the mark, ascending."""
        slots = [slot for slot, _ in self.copies.values()] + [self.mark_slot]
        return sorted({slot for slot in slots if slot != NO_SLOT})
