"""The plain tree: names, words and texts without blocks."""

from lotsandties.deeds import check_deed
from lotsandties.errors import (
    FolderFull,
    FolderNotEmpty,
    IntoItself,
    NameTaken,
    NotAFile,
    NotAFolder,
    NotASign,
    TooLong,
    TooManyLinks,
)
from lotsandties.fields import ROOT
from lotsandties.folders import MOST_NAMES
from lotsandties.naming import MOST_LINKS
from lotsandties.plainnodes import (
    PlainNode,
    plain_file,
    plain_inside,
    plain_named,
    plain_names,
    plain_parent,
    plain_walk,
)
from lotsandties.plan import Plan
from lotsandties.reading import rows_text
from lotsandties.treepaths import all_paths, first_paths


def _check_not_taken(nodes, folder, name):
    if name in nodes[folder].children:
        raise NameTaken(f"the folder has the name {name}")


def _check_not_full(nodes, folder):
    if len(nodes[folder].children) == MOST_NAMES:
        raise FolderFull("the folder has eight names")


def _put_name(nodes, folder, name, n):
    children = nodes[folder].children
    children[name] = n


def _drop_name(nodes, folder, name):
    children = nodes[folder].children
    del children[name]


def _drop_link(nodes, n):
    node = nodes[n]
    node.links -= 1
    if node.links == 0:
        del nodes[n]


def _do_make(nodes, deed):
    folder, name = plain_parent(nodes, deed[1])
    _check_not_taken(nodes, folder, name)
    _check_not_full(nodes, folder)
    made = PlainNode(deed[0], deed[2])
    if deed[0] == "sign":
        made.leads = deed[3]
    n = max(list(nodes)) + 1
    nodes[n] = made
    _put_name(nodes, folder, name, n)


def _do_resign(nodes, deed):
    node = nodes[plain_walk(nodes, deed[1], follow=False)]
    if node.shape != "sign":
        raise NotASign(f"not a sign: {deed[1]}")
    node.leads = deed[2]


def _do_link(nodes, deed):
    n = plain_walk(nodes, deed[1], follow=False)
    node = nodes[n]
    if node.shape == "folder":
        raise NotAFile(f"a folder has one name only: {deed[1]}")
    folder, name = plain_parent(nodes, deed[2])
    _check_not_taken(nodes, folder, name)
    if node.links >= MOST_LINKS:
        raise TooManyLinks("a node has at most 60 links")
    _check_not_full(nodes, folder)
    _put_name(nodes, folder, name, n)
    node.links += 1


def _do_unlink(nodes, deed):
    folder, name, n = plain_named(nodes, deed[1])
    if nodes[n].shape == "folder":
        raise NotAFile(f"a folder: {deed[1]}")
    _drop_name(nodes, folder, name)
    _drop_link(nodes, n)


def _do_rmdir(nodes, deed):
    folder, name, n = plain_named(nodes, deed[1])
    if nodes[n].shape != "folder":
        raise NotAFolder(f"not a folder: {deed[1]}")
    if len(nodes[n].children) > 0:
        raise FolderNotEmpty(f"the folder has names: {deed[1]}")
    _drop_name(nodes, folder, name)
    del nodes[n]


def _do_rename(nodes, deed):
    folder, name, moved = plain_named(nodes, deed[1])
    target, new_name = plain_parent(nodes, deed[2])
    former = nodes[target].children.get(new_name, 0)
    if former == moved:
        return
    if plain_inside(nodes, moved, target):
        raise IntoItself(f"{deed[1]} cannot be moved to {deed[2]}")
    if former:
        if "folder" in (nodes[former].shape, nodes[moved].shape):
            raise NameTaken(f"the folder has the name {new_name}")
        _drop_link(nodes, former)
    elif target != folder:
        _check_not_full(nodes, target)
    _drop_name(nodes, folder, name)
    _put_name(nodes, target, new_name, moved)


def _sized(cells, size):
    """Return the words of a file of this size; a file that grows gets words 0."""
    return (cells + (0,) * Plan.LONGEST)[:size]


def _check_length(size):
    if size > Plan.LONGEST:
        raise TooLong("a file has at most 80 cells")


def _do_write(nodes, deed):
    node = nodes[plain_file(nodes, deed[1])]
    at = deed[2]
    end = at + len(deed[3])
    _check_length(end)
    node.cells = _sized(node.cells, at) + deed[3] + node.cells[end:]


def _do_cut(nodes, deed):
    node = nodes[plain_file(nodes, deed[1])]
    _check_length(deed[2])
    node.cells = _sized(node.cells, deed[2])


def _do_own(nodes, deed):
    node = nodes[plain_walk(nodes, deed[1])]
    node.owner = deed[2]


def _do_open(nodes, deed):
    plain_file(nodes, deed[1])


# The other kinds of deeds change nothing in a plain tree.
ACTIONS = {
    "file": _do_make,
    "folder": _do_make,
    "sign": _do_make,
    "resign": _do_resign,
    "link": _do_link,
    "unlink": _do_unlink,
    "rmdir": _do_rmdir,
    "rename": _do_rename,
    "write": _do_write,
    "cut": _do_cut,
    "own": _do_own,
    "open": _do_open,
}


def _content(node):
    if node.shape == "file":
        return node.cells
    if node.shape == "folder":
        return len(node.children)
    return node.leads


class PlainTree:
    """A tree of names that keeps the tree rows an image has after the same deeds."""

    def __init__(self):
        self._nodes = {ROOT: PlainNode("folder", 0)}

    def do(self, deed):
        """Change the tree as a deed does."""
        check_deed(deed)
        if deed[0] in ACTIONS:
            action = ACTIONS[deed[0]]
            action(self._nodes, deed)

    def rows(self):
        """Return the tree rows."""
        nodes = self._nodes
        paths = all_paths(lambda folder: plain_names(nodes, folder))
        firsts = first_paths(paths)
        rows = []
        for path, n in paths:
            node = nodes[n]
            rows.append((path, node.shape, firsts[n], node.owner, node.links, _content(node)))
        return rows

    def text(self):
        """Return the written form of the tree rows."""
        return rows_text(self.rows())
