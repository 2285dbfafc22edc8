"""Nodes without blocks, and walks over them.

`nodes` is everywhere the dict from the numbers of the nodes to the nodes.
"""

from lotsandties.errors import NoSuchName, NotAFile, NotAFolder, RootFixed, TooManySigns
from lotsandties.fields import ROOT
from lotsandties.treepaths import reached
from lotsandties.walks import MOST_SIGNS, path_names


class PlainNode:
    """A file, a folder or a sign, by its shape."""

    def __init__(self, shape, owner):
        self.shape = shape
        self.owner = owner
        self.links = 1
        # Of a folder: from names to numbers of nodes.
        self.children = {}
        # The words of a file, and the text of a sign.
        self.cells = ()
        self.leads = "."


def _child_of(nodes, n, name):
    if nodes[n].shape != "folder":
        raise NotAFolder("there are no names behind a file")
    if name not in nodes[n].children:
        raise NoSuchName(f"the folder does not have the name {name}")
    return nodes[n].children[name]


def plain_walk(nodes, path, *, follow=True):
    """Return the node at which a walk ends."""
    names = path_names(path)
    n = ROOT
    followed = 0
    while len(names) > 0:
        n = _child_of(nodes, n, names[0])
        names = names[1:]
        if nodes[n].shape == "sign" and (follow or len(names) > 0):
            if followed == MOST_SIGNS:
                raise TooManySigns("a walk follows at most eight signs")
            followed += 1
            names = path_names(nodes[n].leads) + names
            n = ROOT
    return n


def plain_parent(nodes, path):
    """Return the folder of the last name of a path, and this name."""
    names = path_names(path)
    if len(names) == 0:
        raise RootFixed("the root has no name")
    folder = plain_walk(nodes, "/".join(names[:-1])) if len(names) > 1 else ROOT
    if nodes[folder].shape != "folder":
        raise NotAFolder("there are no names behind a file")
    return (folder, names[-1])


def plain_named(nodes, path):
    """Return the folder, the last name of a path, and the node that has this name there."""
    folder, name = plain_parent(nodes, path)
    return (folder, name, _child_of(nodes, folder, name))


def plain_file(nodes, path):
    """Return the file at which a walk ends."""
    n = plain_walk(nodes, path)
    if nodes[n].shape != "file":
        raise NotAFile(f"not a file: {path}")
    return n


def plain_names(nodes, n):
    """Return the tuples of name and child behind node n."""
    return list(nodes[n].children.items())


def plain_inside(nodes, top, n):
    """Tell if a node is another one or can be reached from it through folders."""
    return n in reached(top, lambda folder: plain_names(nodes, folder))
