"""Reading and writing the words of files."""

from lotsandties.errors import TooLong, Unfinished
from lotsandties.fields import SIZE
from lotsandties.nodes import node_cell
from lotsandties.places import place_block, take_place
from lotsandties.plan import Plan
from lotsandties.sizes import put_size, unfinished


def _read_word(image, n, at):
    if at >= node_cell(image, n, SIZE):
        return 0
    x = place_block(image, n, at // Plan.WIDTH)
    return image.cells[x][at % Plan.WIDTH] if x else 0


def read_words(image, n, at, count):
    """Return words of a file from a cell on; holes and cells behind the size are 0."""
    return [_read_word(image, n, cell) for cell in range(at, at + count)]


def file_words(image, n):
    """Return all words of a file."""
    return tuple(read_words(image, n, 0, node_cell(image, n, SIZE)))


def _take_places(image, n, places):
    for o in places:
        take_place(image, n, o)


def _fill_holes(image, n, first, last):
    holes = [o for o in range(first, last + 1) if place_block(image, n, o) == 0]
    if len(holes) > 1:
        # Tried on a twin first: a later hole may be refused when earlier ones are filled.
        _take_places(image.twin(), n, holes)
    _take_places(image, n, holes)


def write_words(image, n, at, words):
    """Write words into a file from a cell on."""
    if unfinished(image, n):
        raise Unfinished("blocks behind the size would come into sight")
    end = at + len(words)
    if end > Plan.LONGEST:
        raise TooLong("a file has at most 80 cells")
    _fill_holes(image, n, at // Plan.WIDTH, (end - 1) // Plan.WIDTH)
    if end > node_cell(image, n, SIZE):
        put_size(image, n, end)
    for k, word in enumerate(words):
        cell = at + k
        image.cells[place_block(image, n, cell // Plan.WIDTH)][cell % Plan.WIDTH] = word
