"""The written form of a disk."""

from lotsandties.disk import MOST_HEAD, Disk
from lotsandties.errors import BadText, BadValue, PlaceBusy
from lotsandties.plan import Plan
from lotsandties.records import fits_plan, read_record, record_text
from lotsandties.texts import read_number, split_words, words_of
from lotsandties.values import CELL_MOST

EMPTY = (0, 0, 0, 0, 0, 0, 0, 0)


def disk_text(disk):
    """Return the written form of a disk on which no write is pending."""
    if not disk.quiet:
        raise PlaceBusy("a write is pending")
    lines = [disk.plan.text(), f"head {disk.head}"]
    for x, cells in enumerate(disk.home):
        if cells != EMPTY:
            lines.append(" ".join(words_of(("home", x, cells))))
    for slot, record in enumerate(disk.log):
        if record is not None:
            lines.append(f"log {slot} {record_text(record)}")
    return "\n".join(lines)


def _read_plan(line):
    try:
        return Plan.read(line)
    except BadValue:
        raise BadText(f"no plan has these numbers: {line}")


def _read_head(line):
    words = split_words(line)
    if len(words) != 2 or words[0] != "head":
        raise BadText(f"not a head: {line}")
    return read_number(words[1], MOST_HEAD)


def _put_home(disk, words):
    if len(words) != 2 + Plan.WIDTH:
        raise BadText("a home has a block and 8 cells")
    x = read_number(words[1], disk.plan.blocks - 1)
    disk.home[x] = tuple([read_number(word, CELL_MOST) for word in words[2:]])


def _put_record(disk, words):
    if len(words) < 2:
        raise BadText("a line of a log has a slot")
    slot = read_number(words[1], disk.plan.slots - 1)
    record = read_record(" ".join(words[2:]))
    if not fits_plan(record, disk.plan):
        raise BadText("the record does not fit the plan")
    disk.log[slot] = record


def _put_line(disk, line):
    words = split_words(line)
    if words[:1] == ["home"]:
        _put_home(disk, words)
    elif words[:1] == ["log"]:
        _put_record(disk, words)
    else:
        raise BadText(f"not a line of a disk: {line}")


def read_disk(text):
    """Return the disk with a written form."""
    lines = text.split("\n")
    if len(lines) < 2:
        raise BadText("a disk has a plan and a head")
    disk = Disk(_read_plan(lines[0]))
    disk.move_head(_read_head(lines[1]))
    for line in lines[2:]:
        _put_line(disk, line)
    # Lines that stand twice, in another order or for nothing show here.
    if disk_text(disk) != text:
        raise BadText("not the written form of a disk")
    return disk
