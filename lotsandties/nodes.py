"""The blocks of nodes: making and unmaking nodes."""

from lotsandties.errors import NodesFull
from lotsandties.fields import KIND, MAKING, OWNER, ROOT, UNMADE
from lotsandties.plan import Plan


def node_cell(image, n, field):
    """Return a cell of the block of node n."""
    return image.cells[image.plan.node_block(n)][field]


def put_node_cell(image, n, field, value):
    """Set a cell of the block of node n."""
    image.cells[image.plan.node_block(n)][field] = value


def is_made(image, n):
    """Tell if node n is made."""
    return node_cell(image, n, KIND) != UNMADE


def made_nodes(image):
    """Return the made nodes, ascending."""
    return [n for n in range(ROOT, image.plan.nodes + 1) if is_made(image, n)]


def make_node(image, kind, owner):
    """Make the lowest node that is not made and return it."""
    unmade = [n for n in range(ROOT + 1, image.plan.nodes + 1) if not is_made(image, n)]
    if len(unmade) == 0:
        raise NodesFull("all nodes are made")
    n = unmade[0]
    unmake_node(image, n)
    put_node_cell(image, n, KIND, kind)
    put_node_cell(image, n, OWNER, owner)
    put_node_cell(image, n, MAKING, node_cell(image, n, MAKING) + 1)
    return n


def unmake_node(image, n):
    """Set the cells of the block of node n to 0, except the making."""
    for field in range(Plan.WIDTH):
        if field != MAKING:
            put_node_cell(image, n, field, 0)
