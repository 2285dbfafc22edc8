"""Owners: the blocks that they use, their limits, and giving nodes to them."""

from lotsandties.errors import OverQuota
from lotsandties.fields import OWNER, SUMS_BLOCK
from lotsandties.nodes import made_nodes, node_cell, put_node_cell
from lotsandties.places import held_blocks
from lotsandties.plan import Plan


def used_blocks(image, owner):
    """Return how many blocks an owner uses according to the sums."""
    return image.cells[SUMS_BLOCK][owner]


def _add_to_used(image, owner, many):
    image.cells[SUMS_BLOCK][owner] = used_blocks(image, owner) + many


def limit_of(image, owner):
    """Return the limit of an owner; 0 means no limit."""
    return image.cells[SUMS_BLOCK][Plan.OWNERS + owner]


def put_limit(image, owner, blocks):
    """Set the limit of an owner."""
    image.cells[SUMS_BLOCK][Plan.OWNERS + owner] = blocks


def counted_blocks(image, owner):
    """Return how many blocks the made nodes of an owner hold."""
    nodes = [n for n in made_nodes(image) if node_cell(image, n, OWNER) == owner]
    return len(held_blocks(image, *nodes))


def change_owner(image, n, owner):
    """Give a made node and its blocks to an owner."""
    old = node_cell(image, n, OWNER)
    if old == owner:
        return
    held = len(held_blocks(image, n))
    limit = limit_of(image, owner)
    if limit != 0 and limit < used_blocks(image, owner) + held:
        raise OverQuota(f"owner {owner} may use {limit} blocks")
    _add_to_used(image, old, -held)
    _add_to_used(image, owner, held)
    put_node_cell(image, n, OWNER, owner)
