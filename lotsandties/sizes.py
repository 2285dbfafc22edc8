"""The sizes of files, blocks behind the size, and the list of unfinished nodes."""

from lotsandties.errors import ListFull, TooLong, Unfinished
from lotsandties.fields import FILE, KIND, LIST_BLOCK, SIZE
from lotsandties.nodes import node_cell, put_node_cell
from lotsandties.places import PLACE_COUNT, drop_place, place_block
from lotsandties.plan import Plan

MOST_PIECE = 2


def _taken_behind(image, n):
    size = node_cell(image, n, SIZE)
    return [o for o in range(PLACE_COUNT) if Plan.WIDTH * o >= size and place_block(image, n, o)]


def unfinished(image, n):
    """Tell if node n is a file with a block behind its size."""
    return node_cell(image, n, KIND) == FILE and len(_taken_behind(image, n)) > 0


def put_size(image, n, size):
    """Set the size of a file and clear what may come into sight behind the smaller size."""
    end = min(node_cell(image, n, SIZE), size)
    if end % Plan.WIDTH != 0:
        x = place_block(image, n, end // Plan.WIDTH)
        if x:
            for cell in range(end % Plan.WIDTH, Plan.WIDTH):
                image.cells[x][cell] = 0
    put_node_cell(image, n, SIZE, size)


def set_size(image, n, size):
    """Set the size of a file."""
    if size > node_cell(image, n, SIZE) and unfinished(image, n):
        raise Unfinished("blocks behind the size would come into sight")
    if size > Plan.LONGEST:
        raise TooLong("a file has at most 80 cells")
    put_size(image, n, size)


def free_piece(image, n):
    """Drop at most two of the places behind the size, the highest ones, and return how many."""
    dropped = _taken_behind(image, n)[-MOST_PIECE:]
    for o in reversed(dropped):
        drop_place(image, n, o)
    return len(dropped)


def listed(image):
    """Return the nodes on the list, in their order."""
    return [n for n in image.cells[LIST_BLOCK] if n]


def _put_list(image, nodes):
    for cell in range(Plan.WIDTH):
        image.cells[LIST_BLOCK][cell] = nodes[cell] if cell < len(nodes) else 0


def enlist(image, n):
    """Put a node at the end of the list unless it is there."""
    nodes = listed(image)
    if n in nodes:
        return
    if len(nodes) == Plan.WIDTH:
        raise ListFull("8 other nodes are on the list")
    _put_list(image, nodes + [n])


def delist(image, n):
    """Take a node off the list if it is there."""
    _put_list(image, [other for other in listed(image) if other != n])
