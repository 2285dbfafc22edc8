"""Standings: what a store holds of one block, as a tuple of six signs."""

START = ("F", "-", "=", "o", "-", "-")
LOST = ("lost",)
LETTERS = (
    "takel",
    "takep",
    "change",
    "free",
    "close",
    "copy",
    "mark",
    "home",
    "early",
    "words",
    "room",
    "told",
)

# The signs that may stand at each of the six places.
SIGNS = (
    ("F", "L", "P"),
    ("-", "=", "~", "F", "L", "P"),
    ("=", "~", "F", "L", "P"),
    ("K", "C", "R", "o"),
    ("-", "K", "o"),
    ("-", "+", "!"),
)
# Where c or r is one of these, an image has a content that the image before it does not have.
NEW = ("~", "L", "P")


def _kind_behind(kind, change):
    """Return the kind of a block in an image, from the kind in the image before and the change between them."""
    if change in ("-", "="):
        return kind
    return "L" if change == "~" else change


def kind_c(standing):
    """Return the kind of the block in the closing lot, or in the committed image if no lot is closing."""
    return _kind_behind(standing[0], standing[1])


def kind_r(standing):
    """Return the kind of the block in the running image."""
    return _kind_behind(kind_c(standing), standing[2])


def content_c(standing):
    """Return the content of the block in the closing lot, or in the committed image if no lot is closing."""
    if kind_c(standing) == "F":
        return "-"
    return "C" if standing[1] in NEW else "K"


def content_r(standing):
    """Return the content of the block in the running image."""
    if kind_r(standing) == "F":
        return "-"
    return "R" if standing[2] in NEW else content_c(standing)


def is_due(standing):
    """Tell if the block is due."""
    return standing[1] in ("~", "L")


def _may_follow(kind, change):
    """Tell if a change is one that a block of a kind can have."""
    if change == "~":
        return kind == "L"
    return change != "F" or kind != "F"


def _content_fits(signs):
    """Tell if the contents at home and in the log are those of images that have one."""
    k, c, r, h, g = signs[:5]
    if (h == "K" and k == "F") or (g == "K" and k != "L"):
        return False
    return (h != "C" or c in NEW) and (h != "R" or r in NEW)


def is_standing(signs):
    """Tell if a tuple of texts is a standing."""
    if signs == LOST:
        return True
    if len(signs) != len(SIGNS) or not all(sign in row for sign, row in zip(signs, SIGNS)):
        return False
    if not _may_follow(signs[0], signs[1]) or not _may_follow(kind_c(signs), signs[2]):
        return False
    return _content_fits(signs) and (signs[5] == "-" or is_due(signs))


def is_bad(standing):
    """Tell if what was committed of the block, or told safe, would not come up."""
    if standing == LOST:
        return True
    k, h, g = standing[0], standing[3], standing[4]
    return k != "F" and g != "K" and not (g == "-" and h == "K")
