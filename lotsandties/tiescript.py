"""Playing lives of nodes on stores without a log."""

from lotsandties.errors import BadValue
from lotsandties.plan import Plan
from lotsandties.playing import outcome_of
from lotsandties.texts import LETTERS
from lotsandties.tiebooks import TieBook
from lotsandties.tiestore import TieStore
from lotsandties.tietable import tie_after, tie_letters, tie_start

NODE = 2


def _check_life(life):
    """Raise BadValue unless each letter is let by the book without rules."""
    letters = list(tie_letters(TieStore.ENTRIES))
    standing = tie_start(TieStore.ENTRIES)
    for letter in life:
        if letter not in letters:
            raise BadValue("no letter over eight entries")
        standing = tie_after(standing, letter, TieBook(()))
        if standing is None:
            raise BadValue(f"the letter {letter[0]} is not let")


def _new_names(life):
    """Return a new name for each letter that gives one, and None for the others."""
    names = []
    used = 0
    for letter in life:
        gives = letter[0] in ("make", "link", "move")
        if gives and used == len(LETTERS):
            raise BadValue("more than 26 names")
        names.append(LETTERS[used] if gives else None)
        used += 1 if gives else 0
    return names


def _row_of(letter, new, owner, names):
    """Return the row of a letter with a new name; names is the dict from entries to the names that they have."""
    kind = letter[0]
    if kind == "make":
        return ("make", new, owner, letter[1])
    if kind == "link":
        return ("link", names[min(list(names))], new, letter[1])
    if kind == "move":
        return ("move", names[letter[1]], new, letter[2])
    if kind == "drop":
        return ("drop", names[letter[1]])
    return ("out_node", NODE) if kind == "out_node" else letter


def _put_names(letter, new, names):
    """Change the names of the entries as a letter does."""
    kind = letter[0]
    if kind in ("drop", "move"):
        del names[letter[1]]
    if new is not None:
        names[letter[-1]] = new


def tie_script(life):
    """Return the rows that play a life with node 2 of a new store."""
    _check_life(life)
    rows = []
    names = {}
    makes = 0
    for letter, new in zip(life, _new_names(life)):
        rows.append(_row_of(letter, new, makes % Plan.OWNERS, names))
        _put_names(letter, new, names)
        makes += 1 if letter[0] == "make" else 0
    return rows


def _play_row(store, row):
    kind = row[0]
    if kind == "make":
        return store.make(row[1], row[2], at=row[3])
    if kind == "link":
        return store.link(row[1], row[2], at=row[3])
    if kind == "move":
        return store.move(row[1], row[2], at=row[3])
    if kind == "drop":
        return store.drop(row[1])
    if kind == "out_node":
        store.out_node(row[1])
    elif kind == "out_entry":
        store.out_entry(row[1])
    else:
        store.told()
    return 0


def play_ties(store, rows):
    """Do rows on a store without a log, also behind a refused one, and return the outcomes."""
    return [outcome_of(_play_row, store, row) for row in rows]
