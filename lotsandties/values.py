"""Questions about values that may be of any kind."""

from lotsandties.plan import Plan

CELL_MOST = 999999999
BLOCK_MOST = 63


def is_number(value, least, most):
    """Tell if a value is a number from least to most."""
    # True and False are integers for Python, but not for the document.
    return isinstance(value, int) and not isinstance(value, bool) and least <= value <= most


def is_cell(value):
    """Tell if a value is a number that a cell can hold."""
    return is_number(value, 0, CELL_MOST)


def is_block(value):
    """Tell if a value is the number of a block of some plan."""
    return is_number(value, 0, BLOCK_MOST)


def is_cell_row(value):
    """Tell if a value is a list or a tuple of the cells of one block."""
    return isinstance(value, (list, tuple)) and len(value) == Plan.WIDTH and all(is_cell(cell) for cell in value)


def is_ascending(numbers):
    """Tell if a list or tuple of numbers ascends, with no number twice."""
    return all(low < high for low, high in zip(numbers, numbers[1:]))
