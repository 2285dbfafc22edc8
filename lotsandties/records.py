"""Records of the log: copies of blocks, and marks of lots."""

from lotsandties.errors import BadText, BadValue
from lotsandties.plan import Plan
from lotsandties.texts import read_number, split_words, words_of
from lotsandties.values import BLOCK_MOST, CELL_MOST, is_ascending, is_block, is_cell_row, is_number

MOST_LOT = 999999
MOST_SLOT = 199
NO_SLOT = -1


def _is_pair(value):
    if not isinstance(value, tuple) or len(value) != 2:
        return False
    return is_block(value[0]) and is_number(value[1], NO_SLOT, MOST_SLOT)


def _are_pairs(value):
    if not isinstance(value, tuple) or not all(_is_pair(pair) for pair in value):
        return False
    return is_ascending([pair[0] for pair in value])


def _are_revokes(value):
    return isinstance(value, tuple) and all(is_block(block) for block in value) and is_ascending(value)


def is_record(record):
    """Tell if a value of any kind is a record."""
    if not isinstance(record, tuple) or len(record) != 4 or not is_number(record[1], 1, MOST_LOT):
        return False
    if record[0] == "copy":
        return is_block(record[2]) and isinstance(record[3], tuple) and is_cell_row(record[3])
    return record[0] == "mark" and _are_pairs(record[2]) and _are_revokes(record[3])


def check_record(record):
    """Raise BadValue unless a value is a record."""
    if not is_record(record):
        raise BadValue("not a record")


def copy_record(lot, block, cells):
    """Return the copy of a block for a lot."""
    if not is_cell_row(cells):
        raise BadValue("not the cells of a block")
    record = ("copy", lot, block, tuple(cells))
    check_record(record)
    return record


def mark_record(lot, copies, revokes=()):
    """Return the mark of a lot with its pairs and its revoked blocks."""
    if not isinstance(copies, (list, tuple)) or not isinstance(revokes, (list, tuple)):
        raise BadValue("not lists of pairs and of blocks")
    # Only what is known to be numbers can be put in order.
    if not all(_is_pair(pair) for pair in copies) or not all(is_block(block) for block in revokes):
        raise BadValue("not the pairs and the blocks of a mark")
    record = ("mark", lot, tuple(sorted(copies)), tuple(sorted(revokes)))
    check_record(record)
    return record


def fits_plan(record, plan):
    """Tell if a plan has all blocks and slots of a record."""
    if record[0] == "copy":
        return record[2] < plan.blocks
    if not all(block < plan.blocks and slot < plan.slots for block, slot in record[2]):
        return False
    return all(block < plan.blocks for block in record[3])


def record_text(record):
    """Return the written form of a record."""
    check_record(record)
    if record[0] == "copy":
        return " ".join(words_of(record))
    pairs = tuple([(block, "-" if slot == NO_SLOT else slot) for block, slot in record[2]])
    return " ".join(words_of(("mark", record[1], "copies", pairs, "revokes", record[3])))


def _read_slot(word):
    return NO_SLOT if word == "-" else read_number(word, MOST_SLOT)


def _read_copy(words):
    if len(words) != 3 + Plan.WIDTH:
        raise BadText("a copy has a lot, a block and 8 cells")
    numbers = [read_number(word, CELL_MOST) for word in words[1:]]
    return ("copy", numbers[0], numbers[1], tuple(numbers[2:]))


def _read_mark(words):
    if len(words) < 4 or words[2] != "copies" or "revokes" not in words[3:]:
        raise BadText("a mark has a lot, copies and revokes")
    at = words.index("revokes")
    if at % 2 == 0:
        raise BadText("a block in a mark has no slot")
    blocks = [read_number(word, BLOCK_MOST) for word in words[3:at:2]]
    slots = [_read_slot(word) for word in words[4:at:2]]
    revokes = [read_number(word, BLOCK_MOST) for word in words[at + 1:]]
    return ("mark", read_number(words[1], MOST_LOT), tuple(zip(blocks, slots)), tuple(revokes))


def read_record(text):
    """Return the record with a written form."""
    words = split_words(text)
    if len(words) == 0 or words[0] not in ("copy", "mark"):
        raise BadText(f"not a record: {text}")
    record = _read_copy(words) if words[0] == "copy" else _read_mark(words)
    if not is_record(record):
        raise BadText(f"not a record: {text}")
    return record
