"""Lines that are said at a desk, and the answers."""

from lotsandties.deeds import read_deed
from lotsandties.errors import BadText, BadValue, NotLet, NotNow, Refused
from lotsandties.plan import MOST_WRITTEN, Plan
from lotsandties.playing import play
from lotsandties.reading import rows_text
from lotsandties.rows import BARE_ROWS, BLOCK_ROWS, MOST_WISH, read_row
from lotsandties.texts import read_number, split_words

BARE_LINES = ("undo", "tree", "flush", "check")
WORD_LINES = ("join", "leave", "save", "drop", "show")


def _read_parts(kind, parts):
    """Return what stands behind the first word of a line, as a tuple."""
    if kind in BARE_LINES and len(parts) == 0:
        return ()
    if kind in WORD_LINES and len(parts) == 1:
        return (parts[0],)
    if kind == "ask" and len(parts) > 1:
        return (parts[0], read_deed(" ".join(parts[1:])))
    if kind == "turn" and len(parts) == 2:
        return (parts[0], read_number(parts[1], MOST_WISH))
    if kind == "move" and len(parts) == 3:
        return tuple([read_number(part, MOST_WRITTEN) for part in parts])
    if kind == "stop":
        return read_row(" ".join(["cut"] + parts))[1:]
    raise BadText(f"not a line for a desk: {kind}")


def _outcome_text(outcome):
    word, what = outcome
    return f"{word} {what}" if word in ("done", "notlet") else word


def _join(desk, parts):
    desk.join(parts[0])
    return "ok"


def _leave(desk, parts):
    desk.leave(parts[0])
    return "ok"


def _save(desk, parts):
    desk.save(parts[0])
    return "ok"


def _drop(desk, parts):
    desk.drop(parts[0])
    return "ok"


def _ask(desk, parts):
    desk.ask(parts[0], parts[1])
    return "ok"


def _move(desk, parts):
    desk.move(Plan(parts[0], nodes=parts[1], slots=parts[2]))
    return "ok"


def _turn(desk, parts):
    return _outcome_text(desk.turn(parts[0], wish=parts[1]))


def _undo(desk, parts):
    return f"done {desk.undo()}"


def _tree(desk, parts):
    return rows_text(desk.rows())


def _show(desk, parts):
    return rows_text(desk.saved(parts[0]))


def _flush(desk, parts):
    return "safe" if desk.flush() else "not safe"


def _check(desk, parts):
    many = len(desk.check())
    return "clean" if many == 0 else f"found {many}"


def _stop(desk, parts):
    number, fault = desk.stop(parts[0])
    return f"up {number} {fault}" if fault else f"up {number}"


ANSWERS = {
    "join": _join,
    "leave": _leave,
    "save": _save,
    "drop": _drop,
    "ask": _ask,
    "move": _move,
    "turn": _turn,
    "undo": _undo,
    "tree": _tree,
    "show": _show,
    "flush": _flush,
    "check": _check,
    "stop": _stop,
}


def _answer(desk, kind, parts):
    answer = ANSWERS[kind]
    try:
        return answer(desk, parts)
    except Refused:
        return "refused"
    except NotNow:
        return "notnow"
    except NotLet as error:
        return f"notlet {error.rule}"
    except BadValue:
        return "bad"


def say(desk, line):
    """Do what a line tells and return the answer."""
    words = split_words(line)
    if len(words) == 0:
        raise BadText("a line has at least one word")
    if words[0] in BARE_ROWS or words[0] in BLOCK_ROWS or words[0] == "sure":
        return _outcome_text(play(desk.store, [read_row(line)])[0])
    return _answer(desk, words[0], _read_parts(words[0], words[1:]))


def talk(desk, lines):
    """Say the lines of a list one after another and yield the answers."""
    for line in lines:
        yield say(desk, line)
