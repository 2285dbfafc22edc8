"""The first stage of the checker: the blocks of nodes, each by itself."""

from lotsandties.checks import MOST_MAKING
from lotsandties.fields import FILE, FIRST_PLACE, FOLDER, KIND, LINKS, MAKING, OWNER, PLACES, ROOT, SIGN, SIZE, UNMADE
from lotsandties.nodes import node_cell
from lotsandties.plan import Plan

# The most names of the text of a sign.
MOST_SIGN = 8


def _check_root(check):
    work = check.work
    root = work.cells[work.plan.node_block(ROOT)]
    right = list(root)
    right[KIND] = FOLDER
    right[LINKS] = 1
    right[OWNER] = root[OWNER] if root[OWNER] < Plan.OWNERS else 0
    right[PLACES] = 0
    right[MAKING] = 1
    if root != right:
        check.note("root")
        work.cells[work.plan.node_block(ROOT)] = right


def _is_unmade_well(cells):
    return not any(cells[:MAKING]) and cells[MAKING] <= MOST_MAKING


def _is_made_well(cells):
    if cells[KIND] not in (FILE, FOLDER, SIGN) or cells[OWNER] >= Plan.OWNERS:
        return False
    if not 1 <= cells[MAKING] <= MOST_MAKING:
        return False
    if cells[KIND] == FILE:
        return cells[SIZE] <= Plan.LONGEST
    if cells[PLACES] != 0:
        return False
    return cells[KIND] == FOLDER or (1 <= cells[SIZE] <= MOST_SIGN and cells[FIRST_PLACE + 1] == 0)


def check_nodes(check):
    """Check the blocks of all nodes."""
    _check_root(check)
    plan = check.work.plan
    for n in range(ROOT + 1, plan.nodes + 1):
        cells = check.work.cells[plan.node_block(n)]
        if node_cell(check.work, n, KIND) == UNMADE:
            if not _is_unmade_well(cells):
                check.note("record", n)
                check.unmake(n)
        elif not _is_made_well(cells):
            check.note("node", n)
            check.unmake(n)
