"""The standing of a block of a store, and the letters that a deed does to a block."""

from lotsandties.errors import PlaceBusy
from lotsandties.logreading import found_marks, live_copy
from lotsandties.plan import Plan
from lotsandties.standings import NEW

# By the numbers of the kinds.
KIND_SIGNS = ("F", "L", "P")


def _change_sign(before, image, x):
    """Return the sign that compares a block in an image with the same block in the image before."""
    if image.kind(x) == Plan.FREE:
        return "=" if before.kind(x) == Plan.FREE else "F"
    if image.holdings[x] != before.holdings[x]:
        return KIND_SIGNS[image.kind(x)]
    # The words of a plain block may change, which does not count.
    same = image.kind(x) == Plan.PLAIN or image.identity(x) == before.identity(x)
    return "=" if same else "~"


def _is_at_home(image, x, home_id):
    """Tell if an identity at home is that of a block in an image; of a plain block the holding counts alone."""
    if image.kind(x) == Plan.LOGGED:
        return image.identity(x) == home_id
    return image.kind(x) == Plan.PLAIN and image.holdings[x] == home_id[0]


def _home_sign(store, x, c, r):
    home_id = store.home_ids[x]
    if _is_at_home(store.committed, x, home_id):
        return "K"
    if c in NEW and _is_at_home(store.closing.image, x, home_id):
        return "C"
    return "R" if r in NEW and _is_at_home(store.image, x, home_id) else "o"


def _log_sign(store, x):
    live = live_copy(found_marks(store.disk), x, lapse="lapse" in store.book)
    if live is None:
        return "-"
    if store.committed.kind(x) != Plan.LOGGED:
        return "o"
    kept = [lot.identities[x] for lot in store.window if lot.number == live[0] and x in lot.identities]
    return "K" if store.committed.identity(x) in kept else "o"


def _copy_sign(lot, x):
    """Return the sign of the copy that the closing lot has of a block."""
    if lot is None or x not in lot.copies:
        return "-"
    return "+" if lot.identities[x] == lot.image.identity(x) else "!"


def standing_of(store, x):
    """Return the standing of block x of a store on which no write is pending."""
    if not store.disk.quiet:
        raise PlaceBusy("a write is pending")
    lot = store.closing
    c = "-" if lot is None else _change_sign(store.committed, lot.image, x)
    r = _change_sign(store.committed if lot is None else lot.image, store.image, x)
    k = KIND_SIGNS[store.committed.kind(x)]
    return (k, c, r, _home_sign(store, x, c, r), _log_sign(store, x), _copy_sign(lot, x))


def deed_letters(before, image, x):
    """Return the letters that a deed did to a block, from the running images before and after it."""
    was_held = before.kind(x) != Plan.FREE
    is_held = image.kind(x) != Plan.FREE
    if was_held and is_held and image.holdings[x] == before.holdings[x]:
        changed = image.kind(x) == Plan.LOGGED and image.stamps[x] != before.stamps[x]
        return ["change"] if changed else []
    freed = ["free"] if was_held else []
    if not is_held:
        return freed
    return freed + ["takel" if image.kind(x) == Plan.LOGGED else "takep"]
