"""Carrying a tree to an image of another plan."""

from lotsandties.fields import FILE, KIND, LINKS, OWNER, ROOT, SIGN, SIZE
from lotsandties.folders import add_entry, folder_entries
from lotsandties.image import Image
from lotsandties.nodes import make_node, node_cell, put_node_cell
from lotsandties.owners import limit_of, put_limit
from lotsandties.places import PLACE_COUNT, place_block, take_place
from lotsandties.plan import Plan
from lotsandties.reading import tree_paths
from lotsandties.signs import put_sign_path, sign_path
from lotsandties.treepaths import first_paths


def _carried_places(image, n):
    """Return the places of a file that have a block and are not behind the size."""
    size = node_cell(image, n, SIZE)
    return [o for o in range(PLACE_COUNT) if Plan.WIDTH * o < size and place_block(image, n, o)]


def _make_nodes(image, nodes, after):
    """Make the nodes of a tree in a new image; return the dict from the old nodes to the new ones."""
    numbers = {}
    for n in nodes:
        owner = node_cell(image, n, OWNER)
        numbers[n] = ROOT if n == ROOT else make_node(after, node_cell(image, n, KIND), owner)
        put_node_cell(after, numbers[n], OWNER, owner)
        put_node_cell(after, numbers[n], LINKS, node_cell(image, n, LINKS))
    return numbers


def _carry_words(image, n, after, m):
    put_node_cell(after, m, SIZE, node_cell(image, n, SIZE))
    for o in _carried_places(image, n):
        x = take_place(after, m, o)
        after.cells[x] = list(image.cells[place_block(image, n, o)])


def _carry_content(image, n, after, numbers):
    kind = node_cell(image, n, KIND)
    if kind == FILE:
        _carry_words(image, n, after, numbers[n])
    elif kind == SIGN:
        put_sign_path(after, numbers[n], sign_path(image, n))
    else:
        for name, child in folder_entries(image, n):
            add_entry(after, numbers[n], name, numbers[child])


def carried(image, plan):
    """Return an image of a plan with the tree rows and limits of another image."""
    nodes = list(first_paths(tree_paths(image)))
    before = Image.fresh(plan)
    after = before.twin()
    after.begin(0, ())
    # All nodes come before the first block: a lack of nodes is told first.
    numbers = _make_nodes(image, nodes, after)
    for n in nodes:
        _carry_content(image, n, after, numbers)
    # The limits come last: an owner may use more blocks than the limit.
    for owner in range(Plan.OWNERS):
        put_limit(after, owner, limit_of(image, owner))
    after.settle(before)
    return after
