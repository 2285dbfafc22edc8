"""What the checker knows while it goes through an image: which blocks are held, which nodes were met."""

from lotsandties.fields import KIND, MAKING, ROOT
from lotsandties.nodes import node_cell, put_node_cell, unmake_node

# The greatest making that still fits into a tie.
MOST_MAKING = 15624999


class Check:
    """A check of an image: the image given, a copy that is mended, and the findings so far."""

    def __init__(self, image, numbered):
        self.image = image
        self.work = image.twin()
        self.numbered = numbered
        self.found = []
        # The blocks of which a good claim was made, also those that were given up.
        self.claimed = {}
        # From blocks to the nodes that hold them.
        self.holders = {}
        self.met = {ROOT: True}
        # The folders that were met, in this order.
        self.folders = [ROOT]
        # From nodes to the numbers of good entries that tie them, and from folders to those of their good entries.
        self.ties = {}
        self.names = {}

    def note(self, *finding):
        """Note a finding."""
        self.found.append(finding)

    def claim(self, x, n, kind):
        """Claim block x for node n as a block of a kind; tell if the claim is good."""
        plan = self.image.plan
        if not plan.first_data <= x < plan.blocks or x in self.claimed or self.image.kind(x) != kind:
            return False
        self.claimed[x] = True
        self.holders[x] = n
        return True

    def give_up(self, x):
        """Give up a block that is held."""
        del self.holders[x]

    def unmake(self, n):
        """Unmake node n."""
        unmake_node(self.work, n)
        if node_cell(self.work, n, MAKING) > MOST_MAKING:
            put_node_cell(self.work, n, MAKING, 0)

    def is_of(self, n, kind):
        """Tell if node n of the mended copy has this kind."""
        return node_cell(self.work, n, KIND) == kind
