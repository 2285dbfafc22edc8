"""Letters: the steps between the standings of one block, and what rules ask of them.

Each function of a letter returns the standing behind the letter, or None if the letter is not let.
"""

from lotsandties.errors import BadValue
from lotsandties.standings import LETTERS, LOST, START, content_c, content_r, is_due, kind_c, kind_r


def _must_wait(standing, book):
    """Tell if the rule wait keeps the running image from changing the block."""
    return "wait" in book and is_due(standing) and standing[5] == "-"


def _home_gone(h):
    """Return the sign of the home when the content that the running image had is gone."""
    return "o" if h == "R" else h


def _takel(standing, book):
    k, c, _, h, g, y = standing
    return (k, c, "L", h, g, y) if kind_r(standing) == "F" else None


def _takep(standing, book):
    k, c, _, h, g, y = standing
    if kind_r(standing) != "F":
        return None
    if "reuse" in book and (k != "F" or kind_c(standing) != "F"):
        return None
    if "shelve" in book and g != "-":
        return None
    return (k, c, "P", h, g, y)


def _change(standing, book):
    k, c, r, h, g, y = standing
    if kind_r(standing) != "L" or _must_wait(standing, book):
        return None
    return (k, c, "~" if r == "=" else r, _home_gone(h), g, y)


def _free(standing, book):
    k, c, _, h, g, y = standing
    if kind_r(standing) == "F" or _must_wait(standing, book):
        return None
    return (k, c, "=" if kind_c(standing) == "F" else "F", _home_gone(h), g, y)


def _close(standing, book):
    k, c, r, h, g, y = standing
    return (k, r, "=", "C" if h == "R" else h, g, y) if c == "-" else None


def _copy(standing, book):
    k, c, r, h, g, y = standing
    if not is_due(standing) or y != "-":
        return None
    return (k, c, r, h, g, "+" if "frozen" in book or r == "=" else "!")


def _home_behind_mark(c, h):
    if h == "C":
        return "K"
    return "o" if h == "K" and c != "=" else h


def _log_behind_mark(standing, book):
    """Return what the log gives for the block when the closing lot is committed."""
    k, c, _, _, g, y = standing
    struck = k == "L" and c in ("F", "L", "P") and "revoke" in book
    if c == "=":
        return g
    if is_due(standing):
        if struck and "lapse" not in book:
            return "-"
        return "K" if y == "+" else "o"
    if struck:
        return "-"
    return "o" if g == "K" else g


def _mark(standing, book):
    _, c, r, h, _, y = standing
    if c == "-" or ("copies" in book and is_due(standing) and y == "-"):
        return None
    if "words" in book and c == "P" and h != "C":
        return None
    return (kind_c(standing), "-", r, _home_behind_mark(c, h), _log_behind_mark(standing, book), "-")


def _home(standing, book):
    k, c, r, _, g, y = standing
    return (k, c, r, "K", g, y) if k == "L" else None


def _early(standing, book):
    k, c, r, _, g, y = standing
    content = content_r(standing)
    if kind_r(standing) != "L" or content == "K" or "mark" in book:
        return None
    return (k, c, r, content, g, y)


def _running_words(standing, book):
    """Return the content that goes home from the running image, or None if the rule late keeps it."""
    content = content_r(standing)
    known = standing[0] == "F" or content == "K"
    same = kind_c(standing) == "F" or content == content_c(standing)
    return content if "late" not in book or (known and same) else None


def _closing_words(standing, book):
    """Return the content that goes home from the closing lot, or None if there is none or the rule late keeps it."""
    k, c = standing[:2]
    if c == "-" or kind_c(standing) != "P":
        return None
    return content_c(standing) if "late" not in book or k == "F" or c == "=" else None


def _words(standing, book):
    k, c, r, _, g, y = standing
    runs = kind_r(standing) == "P"
    content = _running_words(standing, book) if runs else _closing_words(standing, book)
    return None if content is None else (k, c, r, content, g, y)


def _room(standing, book):
    k, c, r, h, g, y = standing
    if g == "-" or ("room" in book and g == "K" and h != "K"):
        return None
    return (k, c, r, h, "-", y)


def _told(standing, book):
    if standing[1] == "-" and standing[2] == "=":
        return standing
    return None if "told" in book else LOST


STEPS = {
    "takel": _takel,
    "takep": _takep,
    "change": _change,
    "free": _free,
    "close": _close,
    "copy": _copy,
    "mark": _mark,
    "home": _home,
    "early": _early,
    "words": _words,
    "room": _room,
    "told": _told,
}


def after(standing, letter, book):
    """Return the standing behind a letter, or None if the letter is not let."""
    if letter not in STEPS:
        raise BadValue(f"no letter: {letter}")
    if standing == LOST:
        return None
    step = STEPS[letter]
    return step(standing, book)


def let_letters(standing, book):
    """Return the letters that are let at a standing, in order."""
    return [letter for letter in LETTERS if after(standing, letter, book) is not None]


def standings_along(life, book):
    """Return the standings of a life, the start first."""
    standings = [START]
    for letter in life:
        standing = after(standings[-1], letter, book)
        if standing is None:
            raise BadValue(f"the letter {letter} is not let")
        standings.append(standing)
    return standings
