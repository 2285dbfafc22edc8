"""Signs: their texts."""

from lotsandties.fields import SIZE
from lotsandties.nodes import node_cell, put_node_cell
from lotsandties.places import place_block, take_logged
from lotsandties.plan import Plan
from lotsandties.texts import code_name, name_code


def sign_path(image, n):
    """Return the text of sign n."""
    cells = image.cells[place_block(image, n, 0)]
    return "/".join([code_name(code) for code in cells[:node_cell(image, n, SIZE)]])


def put_sign_path(image, n, path):
    """Give sign n a text."""
    codes = [name_code(name) for name in path.split("/")]
    x = take_logged(image, n, 0)
    for cell in range(Plan.WIDTH):
        image.cells[x][cell] = codes[cell] if cell < len(codes) else 0
    put_node_cell(image, n, SIZE, len(codes))
