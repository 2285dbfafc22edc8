"""The places of files, folders and signs, and their blocks."""

from lotsandties.fields import FIRST_PLACE, OWNER, PLACES
from lotsandties.nodes import node_cell, put_node_cell
from lotsandties.plan import Plan

PLACE_COUNT = 10
# The places before this one stand in the node, the others in the block of places.
NODE_PLACES = 2


def place_block(image, n, o):
    """Return the block of place o of node n, or 0 for a hole."""
    if o < NODE_PLACES:
        return node_cell(image, n, FIRST_PLACE + o)
    block = node_cell(image, n, PLACES)
    return image.cells[block][o - NODE_PLACES] if block else 0


def put_place(image, n, o, x):
    """Set the block of place o of node n; 0 makes it a hole."""
    if o < NODE_PLACES:
        put_node_cell(image, n, FIRST_PLACE + o, x)
    else:
        image.cells[node_cell(image, n, PLACES)][o - NODE_PLACES] = x


def _needs_block_of_places(image, n, o):
    return o >= NODE_PLACES and node_cell(image, n, PLACES) == 0


def _fill_place(image, n, o):
    owner = node_cell(image, n, OWNER)
    if _needs_block_of_places(image, n, o):
        put_node_cell(image, n, PLACES, image.take(Plan.LOGGED, owner))
    x = image.take(Plan.PLAIN, owner)
    put_place(image, n, o, x)
    return x


def take_place(image, n, o):
    """Return the block of place o of a file; a hole gets a plain block first."""
    x = place_block(image, n, o)
    if x:
        return x
    if _needs_block_of_places(image, n, o):
        # Tried on a twin first: the second block may be refused when the first one is taken.
        _fill_place(image.twin(), n, o)
    return _fill_place(image, n, o)


def take_logged(image, n, o):
    """Return the block of place o of a folder or a sign; a hole gets a logged block first."""
    x = place_block(image, n, o)
    if x:
        return x
    x = image.take(Plan.LOGGED, node_cell(image, n, OWNER))
    put_place(image, n, o, x)
    return x


def _drop_block_of_places(image, n):
    block = node_cell(image, n, PLACES)
    if block and not any(image.cells[block]):
        image.give(block, node_cell(image, n, OWNER))
        put_node_cell(image, n, PLACES, 0)


def drop_place(image, n, o):
    """Free the block of place o, if there is one, and make the place a hole."""
    x = place_block(image, n, o)
    if x:
        image.give(x, node_cell(image, n, OWNER))
        put_place(image, n, o, 0)
        _drop_block_of_places(image, n)


def held_blocks(image, *nodes):
    """Return the blocks that nodes hold: of each one those of its places, then the block of places."""
    held = []
    for n in nodes:
        blocks = [place_block(image, n, o) for o in range(PLACE_COUNT)]
        blocks.append(node_cell(image, n, PLACES))
        held.extend([x for x in blocks if x])
    return held
