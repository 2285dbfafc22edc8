"""Plans: the sizes of a store."""

from lotsandties.errors import BadText, BadValue
from lotsandties.texts import read_number, split_words

MOST_WRITTEN = 999999999999
LEAST_BLOCKS = 8
MOST_BLOCKS = 64
LEAST_NODES = 2
MOST_NODES = 16
MOST_SLOTS = 200
LEAST_DATA = 2
FIRST_MAP = 2


class Plan:
    """The numbers of blocks, nodes and log slots, and what lies where."""

    WIDTH = 8
    OWNERS = 4
    LONGEST = 80
    FREE = 0
    LOGGED = 1
    PLAIN = 2

    def __init__(self, blocks, *, nodes, slots):
        if not LEAST_BLOCKS <= blocks <= MOST_BLOCKS:
            raise BadValue("a plan has from 8 to 64 blocks")
        if not LEAST_NODES <= nodes <= MOST_NODES:
            raise BadValue("a plan has from 2 to 16 nodes")
        if not blocks < slots <= MOST_SLOTS:
            raise BadValue("a plan has more slots than blocks, and at most 200")
        self.blocks = blocks
        self.nodes = nodes
        self.slots = slots
        self.maps = (blocks + self.WIDTH - 1) // self.WIDTH
        self.first_node = FIRST_MAP + self.maps
        self.first_data = self.first_node + nodes
        if blocks - self.first_data < LEAST_DATA:
            raise BadValue("a plan has at least two data blocks")

    @staticmethod
    def read(line):
        """Return the plan with a written form."""
        words = split_words(line)
        if len(words) != 4 or words[0] != "plan":
            raise BadText(f"not a plan: {line}")
        blocks, nodes, slots = [read_number(word, MOST_WRITTEN) for word in words[1:]]
        return Plan(blocks, nodes=nodes, slots=slots)

    def text(self):
        """Return the written form."""
        return f"plan {self.blocks} {self.nodes} {self.slots}"

    def map_place(self, x):
        """Return the map block and the cell in it that tell of block x."""
        return (FIRST_MAP + x // self.WIDTH, x % self.WIDTH)

    def node_block(self, n):
        """Return the block of node n."""
        return self.first_node + n - 1

    def data_blocks(self):
        """Return the data blocks, ascending."""
        return list(range(self.first_data, self.blocks))
