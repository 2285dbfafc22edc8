"""Moves of a store that take several rows."""

from lotsandties.plan import Plan
from lotsandties.playing import steps
from lotsandties.rulings import unsent_blocks

BARRIER = ("barrier",)


def _plays(store, rows, done):
    """Play rows up to the first one that is not done; tell if all were done."""
    for row, outcome in steps(store, rows):
        if outcome[0] != "done":
            return False
        done.append(row)
    return True


def _not_at_home(store, image, kind):
    """Return the blocks that an image holds as a kind and that are not at home as they are there."""
    blocks = [x for x in range(store.plan.blocks) if image.kind(x) == kind]
    return [x for x in blocks if store.home_ids[x] != image.identity(x)]


def _home_rows(store):
    return [("home", x) for x in _not_at_home(store, store.committed, Plan.LOGGED)] + [BARRIER]


def _room_rows(store):
    return [("room",) for _ in store.window]


def _copy_rows(store):
    return [("copy", x) for x in store.due() if x not in store.closing.copies] + [BARRIER]


def _unsent_rows(store):
    # A barrier comes before these rows, so no home is busy.
    unsent = unsent_blocks(store.closing.image, store.committed, store.home_ids, [])
    return [("words", x) for x in unsent] + [BARRIER]


def _telling_rows(store):
    plain = _not_at_home(store, store.image, Plan.PLAIN)
    return [("words", x) for x in plain] + [BARRIER, ("told",)]


def _empties_log(store, done):
    return _plays(store, _home_rows(store), done) and _plays(store, _room_rows(store), done)


def _ends_lot(store, done):
    if not _plays(store, _copy_rows(store), done) or not _plays(store, _unsent_rows(store), done):
        return False
    return _plays(store, [("mark",), BARRIER], done) and _empties_log(store, done)


def _ends_closing_lot(store, done):
    return store.closing is None or _ends_lot(store, done)


def _ends_running_lot(store, done):
    if store.present == store.number:
        return True
    return _plays(store, [("close",)], done) and _ends_lot(store, done)


def flush(store):
    """Bring all deeds to the disk and tell them safe; return the rows that were done."""
    done = []
    if _plays(store, [BARRIER], done) and _empties_log(store, done):
        if _ends_closing_lot(store, done) and _ends_running_lot(store, done):
            _plays(store, _telling_rows(store), done)
    return done
