"""The standings of one node of a store without a log, and the letters that lead from one to the next.

A standing is a tuple: is the node alive in the cache; which entries tie it there; its record on the disk; which entries
tie it on the disk; was it told. Records and entries on the disk are `n` if they have the present making, `o` if not.
"""

UNRECORDED = "u"
NONE = "-"
NEW = "n"
OLD = "o"


def _with(row, j, what):
    """Return a tuple with another item at a place."""
    return row[:j] + (what,) + row[j + 1:]


def _aged(sign):
    return OLD if sign == NEW else sign


def tie_start(entries):
    """Return the standing of a node that was never made."""
    return (0, (0,) * entries, UNRECORDED, (NONE,) * entries, 0)


def tie_letters(entries):
    """Yield the letters over some entries, in order."""
    for kind in ("make", "link", "drop"):
        for j in range(entries):
            yield (kind, j)
    for i in range(entries):
        for j in range(entries):
            if i != j:
                yield ("move", i, j)
    yield ("out_node",)
    for j in range(entries):
        yield ("out_entry", j)
    yield ("told",)


def _make(standing, letter, book):
    alive, ties, record, marks, _ = standing
    if alive or ("after" in book and any(mark != NONE for mark in marks)):
        return None
    aged = tuple([_aged(mark) for mark in marks])
    return (1, _with(ties, letter[1], 1), _aged(record), aged, 0)


def _link(standing, letter, book):
    alive, ties, record, marks, told = standing
    if not alive or ties[letter[1]]:
        return None
    return (alive, _with(ties, letter[1], 1), record, marks, told)


def _drop(standing, letter, book):
    _, ties, record, marks, told = standing
    if not ties[letter[1]]:
        return None
    left = _with(ties, letter[1], 0)
    return (1, left, record, marks, told) if any(left) else (0, left, record, marks, 0)


def _move(standing, letter, book):
    alive, ties, record, marks, told = standing
    i, j = letter[1:]
    if not ties[i] or ties[j]:
        return None
    return (alive, _with(_with(ties, i, 0), j, 1), record, marks, told)


def _out_node(standing, letter, book):
    alive, ties, _, marks, told = standing
    return (alive, ties, NEW if alive else UNRECORDED, marks, told)


def _keeps_mark(standing, j):
    """Tell if the rule keep keeps entry j, which does not tie the node any more, on the disk."""
    alive, ties, _, marks, _ = standing
    kept = any(tie and mark == NEW for tie, mark in zip(ties, marks))
    return alive and marks[j] == NEW and not kept


def _out_entry(standing, letter, book):
    alive, ties, record, marks, told = standing
    j = letter[1]
    if ties[j]:
        if "first" in book and record != NEW:
            return None
        return (alive, ties, record, _with(marks, j, NEW), told)
    if "keep" in book and _keeps_mark(standing, j):
        return None
    return (alive, ties, record, _with(marks, j, NONE), told)


def _agrees(standing):
    """Tell if the disk has of the node what the cache has."""
    alive, ties, record, marks, _ = standing
    if record != (NEW if alive else UNRECORDED):
        return False
    return all(mark == (NEW if tie else NONE) for tie, mark in zip(ties, marks))


def _told(standing, letter, book):
    alive, ties, record, marks, _ = standing
    if "told" in book and not _agrees(standing):
        return None
    return (alive, ties, record, marks, alive)


MOVES = {
    "make": _make,
    "link": _link,
    "drop": _drop,
    "move": _move,
    "out_node": _out_node,
    "out_entry": _out_entry,
    "told": _told,
}


def tie_after(standing, letter, book):
    """Return the standing behind a letter, or None if the letter is not let."""
    if any(j >= len(standing[1]) for j in letter[1:]):
        return None
    move = MOVES[letter[0]]
    return move(standing, letter, book)


def tie_bad(standing, book):
    """Tell if a stop would lose a node that was told, or find an entry that ties another making."""
    _, _, record, marks, told = standing
    if told and (record != NEW or NEW not in marks):
        return True
    if "numbered" in book or record == UNRECORDED:
        return False
    return any(mark not in (NONE, record) for mark in marks)
