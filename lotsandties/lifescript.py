"""Scripts that lead a block of a real store through a life.

A helper file keeps the block that holds the names of the root, so that the only other thing the root has, a sign or a
file, holds the block of the life alone. All blocks but this one are treated with every care that a book may ask for:
they are copied as soon as a lot is closed, and written home before the lots leave the window.
"""

from lotsandties.errors import BadValue
from lotsandties.letters import standings_along
from lotsandties.plan import Plan
from lotsandties.playing import play
from lotsandties.store import Store
from lotsandties.texts import LETTERS, name_code

LEAST_NODES = 3
MOST_LETTERS = 200
LOT_SLOTS = 8
BARRIER = ("barrier",)
HELPER = "a"
NAME = "b"


def _check_life(life, plan, x):
    if plan.nodes < LEAST_NODES:
        raise BadValue("the plan has fewer than 3 nodes")
    if x not in plan.data_blocks():
        raise BadValue("not a data block")
    if len(life) > MOST_LETTERS:
        raise BadValue("more than 200 letters")
    lots = [letter for letter in life if letter in ("close", "told")]
    if LOT_SLOTS * len(lots) > plan.slots:
        raise BadValue("too many lots for the log")


def _add(store, script, rows):
    """Play rows and put them behind a script."""
    play(store, rows)
    script.extend(rows)


def _close(store, script, x):
    """Close a lot, and copy its due blocks other than x."""
    _add(store, script, [("close",)])
    _add(store, script, [("copy", due) for due in store.due() if due != x] + [BARRIER])


def _mark(store, script):
    _add(store, script, [("mark",), BARRIER])


def _empty_log(store, script, x):
    """Write the committed blocks other than x home, and give up all lots."""
    logged = [y for y in range(store.plan.blocks) if y != x and store.committed.kind(y) == Plan.LOGGED]
    rows = [("home", y) for y in logged if store.home_ids[y] != store.committed.identity(y)]
    _add(store, script, rows + [BARRIER] + [("room",) for _ in store.window])


def _begin(store, script, x):
    """Make the helper file and bring it home; the block of the root's names is another one than x."""
    wish = x + 1 if x + 1 < store.plan.blocks else 0
    _add(store, script, [("do", wish, ("file", HELPER, 0))])
    _close(store, script, x)
    _mark(store, script)
    _empty_log(store, script, x)


def _tell(store, script, x, standing):
    # If x itself is not committed, telling is the fault that the life ends with.
    if standing[1] == "-" and standing[2] == "=" and store.present != store.number:
        _close(store, script, x)
        _mark(store, script)
    _add(store, script, [("told",)])


def _own_text(k):
    """Return a name for the k-th letter of a life; no two letters have the same."""
    return LETTERS[k // len(LETTERS)] + LETTERS[k % len(LETTERS)]


def _deeds_of(letter, k):
    """Return the deeds of a letter; the contents of x that they give are those of this letter alone."""
    text = _own_text(k)
    if letter == "takel":
        return [("sign", NAME, 0, text)]
    if letter == "takep":
        return [("file", NAME, 0), ("write", NAME, 0, (name_code(text),))]
    return [("resign", NAME, text)] if letter == "change" else [("unlink", NAME)]


def _add_letter(store, script, x, step):
    """Do a letter; the step is the tuple of its place in the life, the letter and the standing where it is let."""
    k, letter, standing = step
    if letter == "close":
        _close(store, script, x)
    elif letter == "mark":
        _mark(store, script)
    elif letter == "room":
        _empty_log(store, script, x)
    elif letter == "told":
        _tell(store, script, x, standing)
    elif letter in ("copy", "home", "early", "words"):
        _add(store, script, [(letter, x), BARRIER])
    else:
        _add(store, script, [("do", x, deed) for deed in _deeds_of(letter, k)])


def script_of(life, book, plan, x):
    """Return the rows of a script that leads the data block x of a new store through a life."""
    _check_life(life, plan, x)
    standings = standings_along(life, book)
    store = Store(plan, book)
    script = []
    _begin(store, script, x)
    for k, letter in enumerate(life):
        _add_letter(store, script, x, (k, letter, standings[k]))
    return script
