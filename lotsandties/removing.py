"""Removing files and signs that have no names any more."""

from lotsandties.errors import ListFull, NotOnList
from lotsandties.fields import KIND, LINKS, SIGN, SIZE
from lotsandties.nodes import node_cell, put_node_cell, unmake_node
from lotsandties.places import PLACE_COUNT, drop_place, place_block
from lotsandties.plan import Plan
from lotsandties.sizes import MOST_PIECE, delist, enlist, free_piece, listed, unfinished


def has_links(image, n):
    """Tell if node n has links."""
    return node_cell(image, n, LINKS) > 0


def is_in_use(image, n):
    """Tell if node n is open."""
    return n in image.handles


def _check_room_on_list(image, n):
    taken = [o for o in range(PLACE_COUNT) if place_block(image, n, o)]
    nodes = listed(image)
    if len(taken) > MOST_PIECE and n not in nodes and len(nodes) == Plan.WIDTH:
        raise ListFull("8 other nodes are on the list")


def begin_removal(image, n):
    """Begin to remove a file or a sign and return how many places this frees."""
    if node_cell(image, n, KIND) == SIGN:
        drop_place(image, n, 0)
        unmake_node(image, n)
        return 1
    _check_room_on_list(image, n)
    put_node_cell(image, n, SIZE, 0)
    freed = free_piece(image, n)
    if unfinished(image, n):
        enlist(image, n)
    else:
        delist(image, n)
        unmake_node(image, n)
    return freed


def one_piece(image, n):
    """Go on with an unfinished node and return how many places this frees."""
    if n not in listed(image) or (is_in_use(image, n) and not has_links(image, n)):
        raise NotOnList(f"node {n} is not on the list, or it is open and has no links")
    if not has_links(image, n):
        put_node_cell(image, n, SIZE, 0)
    freed = free_piece(image, n)
    if not unfinished(image, n):
        delist(image, n)
        if not has_links(image, n):
            unmake_node(image, n)
    return freed
