"""Rows of scripts, and the written forms of rows and scripts."""

from lotsandties.deeds import is_deed, read_deed
from lotsandties.errors import BadText, BadValue
from lotsandties.texts import read_number, split_words, words_of
from lotsandties.values import is_ascending, is_block, is_number

BARE_ROWS = ("close", "mark", "room", "told", "barrier")
BLOCK_ROWS = ("copy", "home", "early", "words")
MOST_WISH = 63
MOST_WRITE = 999999


def _is_write(part):
    return is_number(part, 1, MOST_WRITE)


def _is_keep(part):
    return isinstance(part, tuple) and all(_is_write(number) for number in part) and is_ascending(part)


def is_row(row):
    """Tell if a value of any kind is a row of a script."""
    if not isinstance(row, tuple) or len(row) == 0:
        return False
    kind = row[0]
    parts = row[1:]
    if kind in BARE_ROWS:
        return len(parts) == 0
    if kind == "do":
        return len(parts) == 2 and is_number(parts[0], 0, MOST_WISH) and is_deed(parts[1])
    if len(parts) != 1:
        return False
    if kind in BLOCK_ROWS:
        return is_block(parts[0])
    if kind == "sure":
        return _is_write(parts[0])
    return kind == "cut" and _is_keep(parts[0])


def check_row(row):
    """Raise BadValue unless a value is a row of a script."""
    if not is_row(row):
        raise BadValue("not a row of a script")


def row_text(row):
    """Return the written form of a row."""
    check_row(row)
    return " ".join(words_of(row))


def _row_of(words):
    if words[0] == "do" and len(words) > 1:
        return ("do", read_number(words[1], MOST_WISH), read_deed(" ".join(words[2:])))
    numbers = [read_number(word, MOST_WRITE) for word in words[1:]]
    if words[0] == "cut":
        return ("cut", tuple(numbers))
    return (words[0], *numbers)


def read_row(text):
    """Return the row with a written form."""
    words = split_words(text)
    if len(words) == 0:
        raise BadText("a row of a script has at least one word")
    row = _row_of(words)
    if not is_row(row):
        raise BadText(f"not a row of a script: {text}")
    return row


def script_text(rows):
    """Return the written form of a list of rows."""
    return "\n".join([row_text(row) for row in rows])


def read_script(text):
    """Return the list of the rows of a script."""
    if text == "":
        return []
    return [read_row(line) for line in text.split("\n")]
