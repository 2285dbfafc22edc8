"""Chronicles: what a store was at its closings, and all words that its blocks have had."""

from lotsandties.errors import BadValue
from lotsandties.fields import FILE, KIND
from lotsandties.nodes import made_nodes, node_cell
from lotsandties.places import PLACE_COUNT, place_block
from lotsandties.plan import Plan
from lotsandties.reading import tree_paths
from lotsandties.treepaths import first_paths


def _has_tree(past, image):
    """Tell if an image has the cells of all blocks that a past holds logged."""
    logged = [x for x in range(past.plan.blocks) if past.kind(x) == Plan.LOGGED]
    return all(past.cells[x] == image.cells[x] for x in logged)


def _file_places(past):
    """Return the tuples of node, place and block of all places of files that have a block."""
    files = [n for n in made_nodes(past) if node_cell(past, n, KIND) == FILE]
    places = [(n, o, place_block(past, n, o)) for n in files for o in range(PLACE_COUNT)]
    return [place for place in places if place[2]]


class Chronicle:
    """Pasts, which are images with numbers, and versions of the words of blocks."""

    def __init__(self, image, *, number=0):
        self.safe = number
        self._pasts = {number: image.twin()}
        # From tuples of block and holding to lists of cells, the oldest first.
        self._words = {}
        # The blocks and holdings that are plain in the image looked at last.
        self._present = []
        self._look_at(image)

    def __contains__(self, number):
        return number in self._pasts

    def note_deed(self, image):
        """Note the image after a deed."""
        self._look_at(image)

    def note_close(self, number, image):
        """Make an image the past with a number."""
        self._pasts[number] = image.twin()

    def note_told(self, number):
        """Note that all deeds so far are told safe and are in the past with a number."""
        self.safe = max(self.safe, number)
        for key in self._present:
            self._words[key] = self._words[key][-1:]

    def versions(self, x, holding):
        """Return the versions of a block and a holding, the oldest first."""
        return list(self._words.get((x, holding), []))

    def fault(self, number, image):
        """Judge an image that came up as the past with a number; the empty text stands for no fault."""
        if number not in self._pasts:
            raise BadValue(f"no past has the number {number}")
        if number < self.safe:
            return "told"
        past = self._pasts[number]
        if not _has_tree(past, image):
            return "tree"
        for n, o, x in _file_places(past):
            if tuple(image.cells[x]) not in self.versions(x, past.holdings[x]):
                path = first_paths(tree_paths(past)).get(n, "?")
                return f"words {path} {o}"
        return ""

    def _look_at(self, image):
        plain = [x for x in image.plan.data_blocks() if image.kind(x) == Plan.PLAIN]
        self._present = [(x, image.holdings[x]) for x in plain]
        for key in self._present:
            x = key[0]
            if key not in self._words:
                self._words[key] = [tuple(image.cells[x])]
            elif image.stamps[x] == image.serial:
                self._words[key].append(tuple(image.cells[x]))
