"""Images: the content of all blocks at one moment."""

from lotsandties.errors import BlocksFull, OverQuota
from lotsandties.fields import FOLDER, KIND, LINKS, MAKING, ROOT, SUMS_BLOCK
from lotsandties.plan import Plan


class Image:
    """The cells of all blocks, and which deeds took and changed them."""

    def __init__(self, plan):
        self.plan = plan
        self.cells = [[0] * Plan.WIDTH for _ in range(plan.blocks)]
        self.holdings = [0] * plan.blocks
        self.stamps = [0] * plan.blocks
        self.handles = {}
        self.serial = 0
        self.wish = 0
        self.barred = ()

    @staticmethod
    def fresh(plan):
        """Return the image of an empty store."""
        image = Image(plan)
        for x in range(plan.first_data):
            block, cell = plan.map_place(x)
            image.cells[block][cell] = Plan.LOGGED
        root = image.cells[plan.node_block(ROOT)]
        root[KIND] = FOLDER
        root[LINKS] = 1
        root[MAKING] = 1
        return Image.of_cells(plan, image.cells)

    @staticmethod
    def of_cells(plan, rows):
        """Return the image with these cells; those of free data blocks become 0."""
        image = Image(plan)
        image.cells = [list(row) for row in rows]
        image.serial = 1
        for x in range(plan.blocks):
            if image.kind(x) == Plan.FREE:
                image.cells[x] = [0] * Plan.WIDTH
            else:
                image.holdings[x] = 1
                image.stamps[x] = 1
        return image

    def begin(self, wish, barred):
        """Begin a deed with a wish for blocks and the blocks barred as plain ones."""
        self.serial += 1
        self.wish = wish
        self.barred = tuple(barred)

    def settle(self, before):
        """End a deed: stamp what it took or changed since the image before."""
        for x in range(self.plan.blocks):
            changed = self.kind(x) != Plan.FREE and self.cells[x] != before.cells[x]
            if changed or self.holdings[x] == self.serial:
                self.stamps[x] = self.serial

    def twin(self):
        """Return an equal image that shares nothing with this one."""
        other = Image(self.plan)
        other.cells = [list(row) for row in self.cells]
        other.holdings = list(self.holdings)
        other.stamps = list(self.stamps)
        other.handles = dict(self.handles)
        other.serial = self.serial
        other.wish = self.wish
        other.barred = self.barred
        return other

    def take(self, kind, owner):
        """Take a data block for an owner and return its number."""
        sums = self.cells[SUMS_BLOCK]
        limit = sums[Plan.OWNERS + owner]
        if limit != 0 and sums[owner] >= limit:
            raise OverQuota(f"owner {owner} uses {sums[owner]} blocks")
        free = self.free_blocks()
        if kind == Plan.PLAIN:
            free = [x for x in free if x not in self.barred]
        if len(free) == 0:
            raise BlocksFull("no block may be taken")
        wished = [x for x in free if x >= self.wish]
        x = wished[0] if wished else free[0]
        self._put_block(x, kind, self.serial)
        sums[owner] += 1
        return x

    def give(self, x, owner):
        """Free the data block x of an owner."""
        self._put_block(x, Plan.FREE, 0)
        self.cells[SUMS_BLOCK][owner] -= 1

    def _put_block(self, x, kind, serial):
        block, cell = self.plan.map_place(x)
        self.cells[block][cell] = kind
        self.cells[x] = [0] * Plan.WIDTH
        self.holdings[x] = serial
        self.stamps[x] = serial

    def free_blocks(self):
        """Return the free data blocks, ascending."""
        return [x for x in self.plan.data_blocks() if self.kind(x) == Plan.FREE]

    def kind(self, x):
        """Return the kind of block x."""
        if x < self.plan.first_data:
            return Plan.LOGGED
        block, cell = self.plan.map_place(x)
        kind = self.cells[block][cell]
        return kind if kind in (Plan.LOGGED, Plan.PLAIN) else Plan.FREE

    def identity(self, x):
        """Return the holding and the stamp of block x."""
        return (self.holdings[x], self.stamps[x])
