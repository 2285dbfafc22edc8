"""Deeds: what can be asked of a store of files, and their written form."""

from lotsandties.errors import BadText, BadValue
from lotsandties.texts import is_path, read_number, split_words, words_of
from lotsandties.values import CELL_MOST, is_cell, is_number

MOST_WORDS = 16

# What stands behind the kind of a deed.
SHAPES = {
    "file": ("path", "owner"),
    "folder": ("path", "owner"),
    "sign": ("path", "owner", "text"),
    "resign": ("path", "text"),
    "link": ("path", "path"),
    "unlink": ("path",),
    "rmdir": ("path",),
    "rename": ("path", "path"),
    "write": ("path", "at", "words"),
    "cut": ("path", "size"),
    "own": ("path", "owner"),
    "limit": ("owner", "blocks"),
    "open": ("path",),
    "shut": ("node",),
    "piece": ("node",),
}

BOUNDS = {
    "owner": (0, 3),
    "at": (0, 999),
    "size": (0, 999),
    "blocks": (0, 64),
    "node": (1, 16),
}


def _are_words(part):
    return isinstance(part, tuple) and 1 <= len(part) <= MOST_WORDS and all(is_cell(word) for word in part)


def _is_part(form, part):
    if form == "words":
        return _are_words(part)
    if form in BOUNDS:
        least, most = BOUNDS[form]
        return is_number(part, least, most)
    return isinstance(part, str) and is_path(part) and (form == "path" or part != ".")


def is_deed(deed):
    """Tell if a value of any kind is a deed."""
    if not isinstance(deed, tuple) or len(deed) == 0 or not isinstance(deed[0], str):
        return False
    if deed[0] not in SHAPES:
        return False
    forms = SHAPES[deed[0]]
    return len(deed) == len(forms) + 1 and all(_is_part(form, part) for form, part in zip(forms, deed[1:]))


def check_deed(deed):
    """Raise BadValue unless a value is a deed."""
    if not is_deed(deed):
        raise BadValue("not a deed")


def deed_text(deed):
    """Return the written form of a deed."""
    check_deed(deed)
    return " ".join(words_of(deed))


def _read_part(form, word):
    return read_number(word, CELL_MOST) if form in BOUNDS else word


def _parts_of(words):
    forms = SHAPES[words[0]]
    # The words of a write are the only part that takes up more than one word.
    single = [form for form in forms if form != "words"]
    end = len(single) + 1
    parts = words[:1] + [_read_part(form, word) for form, word in zip(single, words[1:end])]
    if "words" in forms:
        return parts + [tuple([read_number(word, CELL_MOST) for word in words[end:]])]
    # Words too many stay, so that the parts are no deed.
    return parts + words[end:]


def read_deed(text):
    """Return the deed with a written form."""
    words = split_words(text)
    if len(words) == 0 or words[0] not in SHAPES:
        raise BadText(f"not a deed: {text}")
    deed = tuple(_parts_of(words))
    if not is_deed(deed):
        raise BadText(f"not a deed: {text}")
    return deed
