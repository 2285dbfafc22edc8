"""All stores that may come up after a stop."""

from lotsandties.comingup import come_up
from lotsandties.cuts import cut_disks


def cut_stores(store):
    """Yield each choice of pending writes with the store that comes up if they are kept."""
    for keep, disk in cut_disks(store.disk):
        yield (keep, come_up(disk, store.book))


def cut_fault(store):
    """Return the first choice of kept writes with a fault, and the fault; None if there is none."""
    for keep, found in cut_stores(store):
        fault = store.chronicle.fault(found.number, found.image)
        if fault != "":
            return (keep, fault)
    return None
