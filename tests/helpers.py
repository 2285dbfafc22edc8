"""What several tests need."""

from lotsandties.image import Image
from lotsandties.nodes import made_nodes
from lotsandties.places import held_blocks
from lotsandties.plan import Plan


def small_plan():
    """The plan of the document's examples: blocks 10 to 23 are data blocks."""
    return Plan(24, nodes=5, slots=30)


def fresh():
    return Image.fresh(small_plan())


def state(image):
    """Everything that an image holds, as a value of its own."""
    return (
        image.plan.text(),
        tuple(tuple(row) for row in image.cells),
        tuple(image.holdings),
        tuple(image.stamps),
        tuple(sorted(image.handles.items())),
        image.serial,
        image.wish,
        image.barred,
    )


def disk_state(disk):
    """Everything that a disk holds, as a value of its own."""
    return (disk.plan.text(), tuple(disk.home), tuple(disk.log), disk.head, disk.last, tuple(disk.pending()))


def used(image):
    """The sums: how many blocks each owner uses."""
    return image.cells[0][:4]


def limit(image, owner, blocks):
    image.cells[0][4 + owner] = blocks


def check_blocks(test, image):
    """Check that map, sums, places, holdings and stamps of an image agree (points 7, 8, 15 and 33)."""
    plan = image.plan
    nodes = made_nodes(image)
    held = held_blocks(image, *nodes)
    test.assertEqual(sorted(held), [x for x in plan.data_blocks() if image.kind(x) != Plan.FREE])
    for owner in range(Plan.OWNERS):
        own = [n for n in nodes if image.cells[plan.node_block(n)][3] == owner]
        test.assertEqual(used(image)[owner], len(held_blocks(image, *own)))
    for n in nodes:
        check_places(test, image, n)
    for x in plan.data_blocks():
        if image.kind(x) == Plan.FREE:
            test.assertEqual(image.cells[x], [0] * 8)
            test.assertEqual(image.identity(x), (0, 0))
        else:
            test.assertGreater(image.holdings[x], 0)
            test.assertGreaterEqual(image.stamps[x], image.holdings[x])


def check_places(test, image, n):
    node = image.cells[image.plan.node_block(n)]
    kind = Plan.PLAIN if node[0] == 1 else Plan.LOGGED
    places = node[4:6]
    if node[6]:
        test.assertEqual(node[0], 1)
        test.assertEqual(image.kind(node[6]), Plan.LOGGED)
        test.assertTrue(any(image.cells[node[6]]))
        places = places + image.cells[node[6]]
    for x in places:
        if x:
            test.assertEqual(image.kind(x), kind)
