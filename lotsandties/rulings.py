"""What stands between two images, and which steps of a store must wait for others.

`home_ids` has the identity of what is surely at the home of each block, `busy` the blocks with a pending write to
their homes; `closing` is an image or None.
"""

from lotsandties.plan import Plan


def _blocks_of(image, kind):
    """Return the blocks that an image holds as this kind, ascending."""
    return [x for x in range(image.plan.blocks) if image.kind(x) == kind]


def _is_held(image, x):
    return image is not None and image.kind(x) != Plan.FREE


def due_blocks(image, committed):
    """Return the logged blocks of an image with another identity than in the committed one."""
    return [x for x in _blocks_of(image, Plan.LOGGED) if image.identity(x) != committed.identity(x)]


def revoked_blocks(image, committed):
    """Return the logged blocks of the committed image with another holding in an image."""
    return [x for x in _blocks_of(committed, Plan.LOGGED) if image.holdings[x] != committed.holdings[x]]


def new_plain_blocks(image, committed):
    """Return the plain blocks of an image with another holding than in the committed one."""
    return [x for x in _blocks_of(image, Plan.PLAIN) if image.holdings[x] != committed.holdings[x]]


def same_logged(image, committed):
    """Tell if all blocks that one of two images holds logged have the same identity in both."""
    logged = _blocks_of(image, Plan.LOGGED) + _blocks_of(committed, Plan.LOGGED)
    return all(image.identity(x) == committed.identity(x) for x in logged)


def present_number(number, image, committed, closing):
    """Return the number of the lot that has all deeds done so far."""
    if closing is None:
        return number if same_logged(image, committed) else number + 1
    return number + 1 if same_logged(image, closing) else number + 2


def live_lot(window, x, *, lapse):
    """Return the number of the last lot of a window with a copy of x that is not struck, or 0."""
    live = 0
    for lot in window:
        revoked = x in lot.revokes
        if revoked:
            live = 0
        if x in lot.copies and (lapse or not revoked):
            live = lot.number
    return live


def barred_blocks(book, committed, closing, window):
    """Return the data blocks that must not be given out as plain ones."""
    blocks = committed.plan.data_blocks()
    barred = []
    if "reuse" in book:
        barred = [x for x in blocks if _is_held(committed, x) or _is_held(closing, x)]
    if "shelve" in book:
        lapse = "lapse" in book
        barred = barred + [x for x in blocks if live_lot(window, x, lapse=lapse)]
    return sorted(set(barred))


def unsent_blocks(image, committed, home_ids, busy):
    """Return the new plain blocks of an image whose words are not surely at home."""
    plain = new_plain_blocks(image, committed)
    return [x for x in plain if x in busy or home_ids[x][0] != image.holdings[x]]


def may_send_words(x, holding, committed, closing):
    """Tell if no other image holds x by another holding."""
    images = [image for image in (committed, closing) if _is_held(image, x)]
    return all(image.holdings[x] == holding for image in images)


def _keeps_lot(window, x, committed, home_ids, busy):
    """Tell if the oldest lot of a window must stay because of its copy of x."""
    if any(x in lot.copies for lot in window[1:]):
        return False
    identity = window[0].identities[x]
    if identity[0] == 0 or identity[0] != committed.holdings[x]:
        return False
    return x in busy or home_ids[x] != identity


def may_leave(window, committed, home_ids, busy):
    """Tell if the oldest lot of a window may leave it."""
    copied = list(window[0].copies)
    return not any(_keeps_lot(window, x, committed, home_ids, busy) for x in copied)


def _is_safe(image, x, committed, home_ids, busy):
    """Tell if the words that an image has in a plain block are found after any stop."""
    if not _is_held(committed, x) or committed.holdings[x] != image.holdings[x]:
        return False
    return x not in busy and home_ids[x] == image.identity(x)


def may_tell(image, committed, home_ids, busy):
    """Tell if all that an image has is found after any stop."""
    plain = _blocks_of(image, Plan.PLAIN)
    return same_logged(image, committed) and all([_is_safe(image, x, committed, home_ids, busy) for x in plain])
