"""Playing the rows of scripts on stores."""

from lotsandties.errors import NotLet, NotNow, Refused
from lotsandties.rows import BARE_ROWS, BLOCK_ROWS, check_row


def _play_bare(store, kind):
    if kind == "mark":
        return store.mark()
    if kind == "close":
        store.close()
    elif kind == "room":
        store.room()
    elif kind == "told":
        store.told()
    else:
        store.barrier()
    return 0


def _play_block(store, kind, x):
    if kind == "copy":
        return store.copy(x)
    if kind == "home":
        return store.home(x)
    if kind == "early":
        return store.early(x)
    return store.words(x)


def _play_row(store, row):
    kind = row[0]
    if kind in BARE_ROWS:
        return _play_bare(store, kind)
    if kind in BLOCK_ROWS:
        return _play_block(store, kind, row[1])
    if kind == "do":
        return store.do(row[2], wish=row[1])
    if kind == "sure":
        store.sure(row[1])
    else:
        store.cut(row[1])
    return 0


def outcome_of(play_row, store, row):
    """Do a row on a store by a function and return the outcome."""
    try:
        return ("done", play_row(store, row))
    except Refused:
        return ("refused", "")
    except NotNow:
        return ("notnow", "")
    except NotLet as error:
        return ("notlet", error.rule)


def steps(store, rows):
    """Yield each row of a script with its outcome as soon as it was tried."""
    for row in rows:
        check_row(row)
    for row in rows:
        yield (row, outcome_of(_play_row, store, row))
        if row[0] == "cut":
            return


def play(store, rows):
    """Do the rows of a script on a store and return the outcomes."""
    return [outcome for _, outcome in steps(store, rows)]
