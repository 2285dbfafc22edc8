"""Folders: their entries, which give names to nodes."""

from lotsandties.entries import BLOCK_ENTRIES, EMPTY_ENTRY, TIE_BASE, entry_cells, put_entry, tie_of
from lotsandties.errors import FolderFull, NameTaken, NoSuchName
from lotsandties.fields import FOLDER, KIND, MAKING, SIZE
from lotsandties.nodes import node_cell, put_node_cell
from lotsandties.places import drop_place, place_block, take_logged
from lotsandties.texts import code_name, name_code

FOLDER_PLACES = 2
MOST_NAMES = 8


def _entry_spots(image, n):
    """Return the tuples of block and number of all entries of folder n, also of the empty ones."""
    blocks = [place_block(image, n, o) for o in range(FOLDER_PLACES)]
    return [(x, j) for x in blocks if x for j in range(BLOCK_ENTRIES)]


def _entry_cells(image, spot):
    return entry_cells(image.cells, spot[0], spot[1])


def _put_entry(image, spot, code, tie):
    put_entry(image.cells, spot[0], spot[1], (code, tie))


def _find_spot(image, n, name):
    """Return the entry of folder n that has a name, or None."""
    code = name_code(name)
    for spot in _entry_spots(image, n):
        if _entry_cells(image, spot)[0] == code:
            return spot
    return None


def _named_spot(image, n, name):
    spot = _find_spot(image, n, name)
    if spot is None:
        raise NoSuchName(f"the folder does not have the name {name}")
    return spot


def _tie_to(image, child):
    return tie_of(node_cell(image, child, MAKING), child)


def _add_to_size(image, n, step):
    put_node_cell(image, n, SIZE, node_cell(image, n, SIZE) + step)


def folder_entries(image, n):
    """Return the tuples of name and child of folder n, in the order of its entries."""
    entries = [_entry_cells(image, spot) for spot in _entry_spots(image, n)]
    return [(code_name(code), tie % TIE_BASE) for code, tie in entries if code or tie]


def names_behind(image, n):
    """Return the entries of node n if it is a folder, and none for another node."""
    return folder_entries(image, n) if node_cell(image, n, KIND) == FOLDER else []


def find_child(image, n, name):
    """Return the child with a name in folder n, or 0."""
    spot = _find_spot(image, n, name)
    return 0 if spot is None else _entry_cells(image, spot)[1] % TIE_BASE


def _is_empty(image, spot):
    return _entry_cells(image, spot) == EMPTY_ENTRY


def has_empty_entry(image, n):
    """Tell if a block of folder n has an empty entry."""
    return any(_is_empty(image, spot) for spot in _entry_spots(image, n))


def has_neighbours(image, n, name):
    """Tell if the block of the entry with a name in folder n has other entries."""
    own = _named_spot(image, n, name)
    near = [spot for spot in _entry_spots(image, n) if spot[0] == own[0] and spot != own]
    return not all(_is_empty(image, spot) for spot in near)


def _empty_spot(image, n):
    """Return an empty entry of folder n; a block is taken if it has none."""
    spots = [spot for spot in _entry_spots(image, n) if _is_empty(image, spot)]
    if spots:
        return spots[0]
    o = 1 if place_block(image, n, 0) else 0
    return (take_logged(image, n, o), 0)


def add_entry(image, n, name, child):
    """Give a name in folder n to a node."""
    if _find_spot(image, n, name) is not None:
        raise NameTaken(f"the folder has the name {name}")
    if len(folder_entries(image, n)) == MOST_NAMES:
        raise FolderFull("the folder has eight names")
    spot = _empty_spot(image, n)
    _put_entry(image, spot, name_code(name), _tie_to(image, child))
    _add_to_size(image, n, 1)


def put_child(image, n, name, child):
    """Let a name of folder n lead to another node."""
    spot = _named_spot(image, n, name)
    _put_entry(image, spot, name_code(name), _tie_to(image, child))


def drop_entry(image, n, name):
    """Remove a name from folder n."""
    spot = _named_spot(image, n, name)
    _put_entry(image, spot, 0, 0)
    _add_to_size(image, n, -1)
    if not any(image.cells[spot[0]]):
        o = 0 if place_block(image, n, 0) == spot[0] else 1
        drop_place(image, n, o)
