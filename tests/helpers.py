"""What several tests need."""

from lotsandties.acting import do_deeds
from lotsandties.image import Image
from lotsandties.nodes import made_nodes
from lotsandties.places import held_blocks
from lotsandties.plan import Plan
from lotsandties.sizes import listed, unfinished


def small_plan():
    """The plan of the document's examples: blocks 10 to 23 are data blocks."""
    return Plan(24, nodes=5, slots=30)


def fresh():
    return Image.fresh(small_plan())


def state(image):
    """Everything that an image holds, as a value of its own."""
    return (
        image.plan.text(),
        tuple(tuple(row) for row in image.cells),
        tuple(image.holdings),
        tuple(image.stamps),
        tuple(sorted(image.handles.items())),
        image.serial,
        image.wish,
        image.barred,
    )


def disk_state(disk):
    """Everything that a disk holds, as a value of its own."""
    return (disk.plan.text(), tuple(disk.home), tuple(disk.log), disk.head, disk.last, tuple(disk.pending()))


def used(image):
    """The sums: how many blocks each owner uses."""
    return image.cells[0][:4]


def limit(image, owner, blocks):
    image.cells[0][4 + owner] = blocks


def check_blocks(test, image):
    """Check that map, sums, places, holdings and stamps of an image agree (points 7, 8, 15 and 33)."""
    plan = image.plan
    nodes = made_nodes(image)
    held = held_blocks(image, *nodes)
    test.assertEqual(sorted(held), [x for x in plan.data_blocks() if image.kind(x) != Plan.FREE])
    for owner in range(Plan.OWNERS):
        own = [n for n in nodes if image.cells[plan.node_block(n)][3] == owner]
        test.assertEqual(used(image)[owner], len(held_blocks(image, *own)))
    for n in nodes:
        check_places(test, image, n)
    for x in plan.data_blocks():
        if image.kind(x) == Plan.FREE:
            test.assertEqual(image.cells[x], [0] * 8)
            test.assertEqual(image.identity(x), (0, 0))
        else:
            test.assertGreater(image.holdings[x], 0)
            test.assertGreaterEqual(image.stamps[x], image.holdings[x])


def check_places(test, image, n):
    node = image.cells[image.plan.node_block(n)]
    kind = Plan.PLAIN if node[0] == 1 else Plan.LOGGED
    places = node[4:6]
    if node[6]:
        test.assertEqual(node[0], 1)
        test.assertEqual(image.kind(node[6]), Plan.LOGGED)
        test.assertTrue(any(image.cells[node[6]]))
        places = places + image.cells[node[6]]
    for x in places:
        if x:
            test.assertEqual(image.kind(x), kind)


def done(*deeds, plan=None, wish=0):
    """A fresh image after deeds."""
    return do_deeds(Image.fresh(plan or small_plan()), *deeds, wish=wish)[0]


def wide_plan():
    """A plan with room for many names and files: blocks 26 to 63 are data blocks."""
    return Plan(64, nodes=16, slots=120)


def refused(test, error, step, image, *arguments, **more):
    """Check that a step raises this very error and leaves the image as it was."""
    whole = state(image)
    with test.assertRaises(error) as caught:
        step(image, *arguments, **more)
    test.assertIs(type(caught.exception), error)
    test.assertEqual(state(image), whole)


def names_of(image, n):
    """The entries of a folder with their blocks: tuples of name, child and making."""
    entries = []
    for x in image.cells[image.plan.node_block(n)][4:6]:
        for j in range(4 if x else 0):
            code, tie = image.cells[x][2 * j], image.cells[x][2 * j + 1]
            if code or tie:
                entries.append((code, tie % 64, tie // 64))
    return entries


def check_sound(test, image):
    """Check all that points 7 to 9, 33, 52 and 64 say of an image that deeds have made."""
    plan = image.plan
    check_blocks(test, image)
    nodes = {n: image.cells[plan.node_block(n)] for n in range(1, plan.nodes + 1)}
    made = [n for n in nodes if nodes[n][0]]
    tied = {n: 0 for n in made}
    for n in made:
        if nodes[n][0] == 2:
            entries = names_of(image, n)
            test.assertEqual(nodes[n][2], len(entries))
            test.assertEqual(len({code for code, _, _ in entries}), len(entries))
            for x in nodes[n][4:6]:
                test.assertTrue(x == 0 or any(image.cells[x]))
            for _, child, making in entries:
                test.assertEqual(making, nodes[child][7])
                tied[child] += 1
        if nodes[n][0] == 3:
            test.assertTrue(1 <= nodes[n][2] <= 8 and nodes[n][4] and not nodes[n][5] and not nodes[n][6])
    tied[1] += 1
    test.assertEqual([nodes[n][1] for n in made], [tied[n] for n in made])
    test.assertTrue(all(tied[n] == 1 for n in made if nodes[n][0] == 2))
    left = [n for n in made if nodes[n][0] == 1 and (unfinished(image, n) or nodes[n][1] == 0)]
    test.assertEqual(sorted(listed(image)), left)
    for n in nodes:
        if n not in made:
            test.assertEqual(nodes[n][:7], [0] * 7)
    for n in image.handles:
        test.assertTrue(nodes[n][0] == 1 and image.handles[n] > 0)
