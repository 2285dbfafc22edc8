"""Undoing deeds: which deeds bring back the tree rows and the limits that an image had.

Paths lead through no sign. A path that would have too many names is None here, and so is a list of deeds with one.
"""

from lotsandties.fields import KIND, LINKS, OWNER, SIGN, SIZE
from lotsandties.folders import find_child
from lotsandties.nodes import node_cell
from lotsandties.owners import limit_of
from lotsandties.places import PLACE_COUNT, place_block
from lotsandties.plan import Plan
from lotsandties.reading import tree_paths
from lotsandties.removing import is_in_use
from lotsandties.signs import sign_path
from lotsandties.sizes import MOST_PIECE
from lotsandties.texts import is_path
from lotsandties.treepaths import first_paths, joined
from lotsandties.walks import walk, walk_file, walk_parent
from lotsandties.wordrows import read_words


def _path_of_node(image, n, *, other_than=None):
    """Return the path of a node with the fewest names, or None if all have too many; one path may be left out."""
    paths = [path for path, node in tree_paths(image) if node == n and path != other_than and is_path(path)]
    return min(paths, key=lambda path: len(path.split("/"))) if paths else None


def _whole_name(image, path):
    """Return the path through no sign of the name that a path leads to, whether it is there or not; or None."""
    folder, name = walk_parent(image, path)
    whole = joined(first_paths(tree_paths(image))[folder], name)
    return whole if is_path(whole) else None


def _named(image, path):
    """Return the node that has the last name of a path, or 0."""
    folder, name = walk_parent(image, path)
    return find_child(image, folder, name)


def _pieces(n, blocks):
    """Return the pieces that free the blocks that a removal or a cut left at places to be freed."""
    left = blocks - MOST_PIECE
    return [("piece", n) for _ in range(0, left, MOST_PIECE)]


def _words_back(image, n, path, at, end):
    """Return the writes of the words that file n has from one cell to another, in front of its size, for each block."""
    deeds = []
    for o in range(PLACE_COUNT):
        first = max(at, Plan.WIDTH * o)
        many = min(end, Plan.WIDTH * (o + 1)) - first
        if many > 0 and place_block(image, n, o):
            deeds.append(("write", path, first, tuple(read_words(image, n, first, many))))
    return deeds


def _blocks_behind(image, n, size):
    return [o for o in range(PLACE_COUNT) if Plan.WIDTH * o >= size and place_block(image, n, o)]


def _file_again(image, n, path):
    """Return the deeds that make a file like file n, which was removed."""
    size = node_cell(image, n, SIZE)
    deeds = [("file", path, node_cell(image, n, OWNER))]
    if not is_in_use(image, n):
        # An open file keeps its blocks: there is nothing to be freed before the new one is made.
        deeds = _pieces(n, len(_blocks_behind(image, n, 0))) + deeds
    if size > 0:
        deeds.append(("cut", path, size))
    return deeds + _words_back(image, n, path, 0, size)


def _name_again(image, n, path):
    """Return the deeds that give back to file or sign n a name that it lost."""
    if node_cell(image, n, LINKS) > 1:
        other = _path_of_node(image, n, other_than=path)
        return None if other is None else [("link", other, path)]
    if node_cell(image, n, KIND) == SIGN:
        return [("sign", path, node_cell(image, n, OWNER), sign_path(image, n))]
    return _file_again(image, n, path)


def _undo_make(image, deed):
    path = _whole_name(image, deed[1])
    kind = "rmdir" if deed[0] == "folder" else "unlink"
    return None if path is None else [(kind, path)]


def _undo_resign(image, deed):
    n = walk(image, deed[1], follow=False)
    path = _path_of_node(image, n)
    return None if path is None else [("resign", path, sign_path(image, n))]


def _undo_link(image, deed):
    path = _whole_name(image, deed[2])
    return None if path is None else [("unlink", path)]


def _undo_unlink(image, deed):
    path = _whole_name(image, deed[1])
    return None if path is None else _name_again(image, _named(image, deed[1]), path)


def _undo_rmdir(image, deed):
    path = _whole_name(image, deed[1])
    return None if path is None else [("folder", path, node_cell(image, _named(image, deed[1]), OWNER))]


def _undo_rename(image, deed):
    moved = _named(image, deed[1])
    former = _named(image, deed[2])
    if moved == former:
        return []
    path = _whole_name(image, deed[1])
    new = _whole_name(image, deed[2])
    if path is None or new is None:
        return None
    if former == 0:
        return [("rename", new, path)]
    again = _name_again(image, former, new)
    # What the former child still holds is freed behind the move, before its name is made again.
    return None if again is None else [("rename", new, path)] + again


def _cuts_back(image, n, path, at, end):
    """Return the cuts that take off what a write from one cell to another put behind the size of file n."""
    size = node_cell(image, n, SIZE)
    if end <= size:
        return []
    last = (end - 1) // Plan.WIDTH
    taken = [o for o in range(at // Plan.WIDTH, last + 1) if Plan.WIDTH * o >= size]
    if len(taken) <= MOST_PIECE:
        return [("cut", path, size)]
    # One cut frees two blocks and puts a file with a third one on the list, which may be full.
    return [("cut", path, Plan.WIDTH * (taken[0] + 1)), ("cut", path, size)]


def _undo_write(image, deed):
    n = walk_file(image, deed[1])
    path = _path_of_node(image, n)
    if path is None:
        return None
    at = deed[2]
    end = at + len(deed[3])
    deeds = _cuts_back(image, n, path, at, end)
    many = min(end, node_cell(image, n, SIZE)) - at
    if many > 0:
        deeds.append(("write", path, at, tuple(read_words(image, n, at, many))))
    return deeds


def _undo_cut(image, deed):
    n = walk_file(image, deed[1])
    size = node_cell(image, n, SIZE)
    if deed[2] == size:
        return []
    path = _path_of_node(image, n)
    if path is None:
        return None
    freed = _pieces(n, len(_blocks_behind(image, n, deed[2])))
    return freed + [("cut", path, size)] + _words_back(image, n, path, deed[2], size)


def _undo_own(image, deed):
    n = walk(image, deed[1])
    path = _path_of_node(image, n)
    return None if path is None else [("own", path, node_cell(image, n, OWNER))]


def _undo_limit(image, deed):
    return [("limit", deed[1], limit_of(image, deed[1]))]


# The other kinds of deeds change neither tree rows nor limits.
WAYS = {
    "file": _undo_make,
    "folder": _undo_make,
    "sign": _undo_make,
    "resign": _undo_resign,
    "link": _undo_link,
    "unlink": _undo_unlink,
    "rmdir": _undo_rmdir,
    "rename": _undo_rename,
    "write": _undo_write,
    "cut": _undo_cut,
    "own": _undo_own,
    "limit": _undo_limit,
}


def backwards(image, deed):
    """Return deeds that undo a deed that can be done on an image, or None if a path would have too many names."""
    if deed[0] not in WAYS:
        return []
    way = WAYS[deed[0]]
    return way(image, deed)
