"""Where things lie: the first two blocks, the root, and the cells of a node's block."""

SUMS_BLOCK = 0
LIST_BLOCK = 1
ROOT = 1

KIND = 0
LINKS = 1
SIZE = 2
OWNER = 3
FIRST_PLACE = 4
PLACES = 6
MAKING = 7

UNMADE = 0
FILE = 1
FOLDER = 2
SIGN = 3
