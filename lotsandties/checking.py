"""Is an image sound, and is what lies at the homes of a disk?"""

from lotsandties.findings import findings
from lotsandties.image import Image


def is_clean(image):
    """Tell if there are no findings on an image."""
    return len(findings(image)) == 0


def home_image(disk, plan):
    """Return the image that the homes of a disk have."""
    return Image.of_cells(plan, disk.home)
