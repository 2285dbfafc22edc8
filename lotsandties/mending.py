"""Mending images."""

from lotsandties.findings import checked
from lotsandties.image import Image

LOST_KINDS = ("node", "place", "entry")


def losses(found):
    """Yield the findings by which something was lost."""
    for finding in found:
        if finding[0] in LOST_KINDS:
            yield finding


def mended(image, *, numbered=True):
    """Return the mended image, which is sound, and the findings by which something was lost."""
    check = checked(image, numbered=numbered)
    return (Image.of_cells(image.plan, check.work.cells), list(losses(check.found)))
