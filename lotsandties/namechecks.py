"""The second and third stage of the checker: folders, the places of files, and the list."""

from lotsandties.entries import BLOCK_ENTRIES, EMPTY_ENTRY, TIE_BASE, entry_cells, put_entry, tie_of
from lotsandties.fields import FILE, FIRST_PLACE, FOLDER, LIST_BLOCK, MAKING, PLACES, ROOT, SIGN, SIZE
from lotsandties.folders import FOLDER_PLACES
from lotsandties.nodes import is_made, node_cell, put_node_cell
from lotsandties.places import NODE_PLACES, PLACE_COUNT, place_block, put_place
from lotsandties.plan import Plan
from lotsandties.sizes import unfinished
from lotsandties.texts import code_name


def _is_code(code):
    return code_name(code) != "?"


def _is_behind(check, n, o):
    return Plan.WIDTH * o >= node_cell(check.work, n, SIZE)


def _check_place(check, n, o):
    x = place_block(check.work, n, o)
    if x == 0:
        return
    if _is_behind(check, n, o) and n not in check.image.cells[LIST_BLOCK]:
        check.note("beyond", n, o)
        put_place(check.work, n, o, 0)
    elif not check.claim(x, n, Plan.PLAIN):
        check.note("place", n, o)
        put_place(check.work, n, o, 0)


def _check_block_of_places(check, n):
    x = node_cell(check.work, n, PLACES)
    if x == 0:
        return
    if not check.claim(x, n, Plan.LOGGED):
        check.note("place", n, PLACE_COUNT)
        put_node_cell(check.work, n, PLACES, 0)
        return
    for o in range(NODE_PLACES, PLACE_COUNT):
        _check_place(check, n, o)
    if not any(check.work.cells[x]):
        check.note("empty", n, PLACE_COUNT)
        put_node_cell(check.work, n, PLACES, 0)
        check.give_up(x)


def _meet(check, n):
    """Meet a node for the first time; the places of a file are read at once."""
    check.met[n] = True
    if check.is_of(n, FOLDER):
        check.folders.append(n)
    elif check.is_of(n, FILE):
        for o in range(NODE_PLACES):
            _check_place(check, n, o)
        _check_block_of_places(check, n)


def _reads_sign(check, n):
    """Claim the block of sign n; tell if it has a text. A sign without one is unmade."""
    x = node_cell(check.work, n, FIRST_PLACE)
    if x != 0 and check.claim(x, n, Plan.LOGGED):
        codes = check.work.cells[x][:node_cell(check.work, n, SIZE)]
        if all(_is_code(code) for code in codes):
            return True
        check.give_up(x)
    check.note("node", n)
    check.unmake(n)
    return False


def _is_good_entry(check, entry, codes):
    """Tell if an entry is good; codes are those of the good entries of the folder before it."""
    code, tie = entry
    n = tie % TIE_BASE
    if not _is_code(code) or code in codes:
        return False
    if not ROOT < n <= check.work.plan.nodes or not is_made(check.work, n):
        return False
    if check.numbered and tie != tie_of(node_cell(check.work, n, MAKING), n):
        return False
    if n in check.met:
        return not check.is_of(n, FOLDER)
    return not check.is_of(n, SIGN) or _reads_sign(check, n)


def _check_entry(check, f, x, j, codes):
    """Check an entry of block x of folder f; j is its number in the folder."""
    cells = check.work.cells
    k = j % BLOCK_ENTRIES
    code, tie = entry_cells(cells, x, k)
    if (code, tie) == EMPTY_ENTRY:
        return
    if not _is_good_entry(check, (code, tie), codes):
        check.note("entry", f, j)
        put_entry(cells, x, k, EMPTY_ENTRY)
        return
    codes.append(code)
    n = tie % TIE_BASE
    right = tie_of(node_cell(check.work, n, MAKING), n)
    if tie != right:
        check.note("making", f, j)
        put_entry(cells, x, k, (code, right))
    check.ties[n] = check.ties.get(n, 0) + 1
    if n not in check.met:
        _meet(check, n)


def _check_folder_place(check, f, o, codes):
    x = place_block(check.work, f, o)
    if x == 0:
        return
    if not check.claim(x, f, Plan.LOGGED):
        check.note("place", f, o)
        put_place(check.work, f, o, 0)
        return
    first = BLOCK_ENTRIES * o
    for j in range(first, first + BLOCK_ENTRIES):
        _check_entry(check, f, x, j, codes)
    if not any(check.work.cells[x]):
        check.note("empty", f, o)
        put_place(check.work, f, o, 0)
        check.give_up(x)


def check_folders(check):
    """Check the folders, the root first, then the others in the order in which they are met."""
    at = 0
    while at < len(check.folders):
        f = check.folders[at]
        codes = []
        for o in range(FOLDER_PLACES):
            _check_folder_place(check, f, o, codes)
        check.names[f] = len(codes)
        at += 1


def _stays_on_list(check, n, stay):
    """Tell if a number of the list stays on it; a file that was not met before is met by this."""
    if not ROOT < n <= check.work.plan.nodes or not check.is_of(n, FILE) or n in stay:
        return False
    if n in check.met:
        return unfinished(check.work, n)
    _meet(check, n)
    return True


def check_list(check):
    """Check the list of unfinished nodes."""
    cells = check.work.cells
    stay = []
    for n in list(cells[LIST_BLOCK]):
        if _stays_on_list(check, n, stay):
            stay.append(n)
    right = stay + [0] * (Plan.WIDTH - len(stay))
    if cells[LIST_BLOCK] != right:
        check.note("list")
        cells[LIST_BLOCK] = right
