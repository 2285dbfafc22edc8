"""Entries: the code of a name and a tie, side by side in the block of a folder."""

BLOCK_ENTRIES = 4
EMPTY_ENTRY = (0, 0)
# A tie is the making of a node times this number plus the node.
TIE_BASE = 64


def tie_of(making, n):
    """Return the tie of a making of node n."""
    return making * TIE_BASE + n


def entry_cells(cells, x, j):
    """Return the code and the tie of an entry of block x, numbered from 0 to 3; cells are those of all blocks."""
    return (cells[x][2 * j], cells[x][2 * j + 1])


def put_entry(cells, x, j, entry):
    """Set the code and the tie of an entry of block x."""
    cells[x][2 * j], cells[x][2 * j + 1] = entry
