"""The last three stages of the checker: nodes that were not met, numbers counted, the map and the sums."""

from lotsandties.fields import FOLDER, LINKS, OWNER, ROOT, SIZE, SUMS_BLOCK
from lotsandties.nodes import made_nodes, node_cell, put_node_cell
from lotsandties.plan import Plan

MOST_LIMIT = 64


def check_met(check):
    """Unmake the nodes that were not met."""
    for n in made_nodes(check.work):
        if n not in check.met:
            check.note("node", n)
            check.unmake(n)


def check_counts(check):
    """Check the links of nodes and the sizes of folders."""
    work = check.work
    for n in made_nodes(work):
        links = check.ties.get(n, 0)
        if n != ROOT and node_cell(work, n, LINKS) != links:
            check.note("links", n)
            put_node_cell(work, n, LINKS, links)
        if check.is_of(n, FOLDER) and node_cell(work, n, SIZE) != check.names[n]:
            check.note("size", n)
            put_node_cell(work, n, SIZE, check.names[n])


def _right_kind(check, x, kind):
    """Return the number that the map should have for x, where it has this kind."""
    if x < check.work.plan.first_data:
        return Plan.LOGGED
    return kind if x in check.holders else Plan.FREE


def check_map(check):
    """Check all cells of the map."""
    plan = check.work.plan
    for x in range(plan.maps * Plan.WIDTH):
        block, cell = plan.map_place(x)
        row = check.work.cells[block]
        right = _right_kind(check, x, row[cell])
        if row[cell] != right:
            check.note("map", x)
            row[cell] = right


def check_sums(check):
    """Check how many blocks the owners use, and their limits."""
    sums = check.work.cells[SUMS_BLOCK]
    owners = [node_cell(check.work, n, OWNER) for n in check.holders.values()]
    for owner in range(Plan.OWNERS):
        if sums[owner] != owners.count(owner):
            check.note("used", owner)
            sums[owner] = owners.count(owner)
        if sums[Plan.OWNERS + owner] > MOST_LIMIT:
            check.note("limit", owner)
            sums[Plan.OWNERS + owner] = 0
