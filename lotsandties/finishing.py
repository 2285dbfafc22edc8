"""Finishing removals."""

from lotsandties.errors import LotClosing
from lotsandties.removing import has_links, is_in_use
from lotsandties.sizes import listed


def _unfinished_nodes(image):
    return [n for n in listed(image) if has_links(image, n) or not is_in_use(image, n)]


def finish(store):
    """Go on with removals until none is left; return the number of deeds that this took."""
    if store.closing is not None:
        raise LotClosing("a lot is closing")
    count = 0
    nodes = _unfinished_nodes(store.image)
    while len(nodes) > 0:
        store.do(("piece", nodes[0]))
        count += 1
        nodes = _unfinished_nodes(store.image)
    return count
