"""Walks along paths, from folder to folder and through signs."""

from lotsandties.errors import NoSuchName, NotAFile, NotAFolder, RootFixed, TooManySigns
from lotsandties.fields import FILE, FOLDER, KIND, ROOT, SIGN
from lotsandties.folders import find_child, names_behind
from lotsandties.nodes import node_cell
from lotsandties.signs import sign_path
from lotsandties.treepaths import reached

MOST_SIGNS = 8


def path_names(path):
    """Return the names of a path."""
    return [] if path == "." else path.split("/")


def _child_of(image, n, name):
    if node_cell(image, n, KIND) != FOLDER:
        raise NotAFolder(f"there are no names behind node {n}")
    child = find_child(image, n, name)
    if child == 0:
        raise NoSuchName(f"the folder does not have the name {name}")
    return child


def visited(image, path, *, follow=True):
    """Yield every node to which a walk along a path comes."""
    names = path_names(path)
    n = ROOT
    followed = 0
    yield n
    while len(names) > 0:
        n = _child_of(image, n, names[0])
        names = names[1:]
        yield n
        if node_cell(image, n, KIND) == SIGN and (follow or len(names) > 0):
            if followed == MOST_SIGNS:
                raise TooManySigns("a walk follows at most eight signs")
            followed += 1
            names = path_names(sign_path(image, n)) + names
            n = ROOT
            yield n


def walk(image, path, *, follow=True):
    """Return the node at which a walk along a path ends."""
    nodes = list(visited(image, path, follow=follow))
    return nodes[-1]


def walk_parent(image, path):
    """Return the folder of the last name of a path, and this name."""
    names = path_names(path)
    if len(names) == 0:
        raise RootFixed("the root has no name")
    folder = walk(image, "/".join(names[:-1])) if len(names) > 1 else ROOT
    if node_cell(image, folder, KIND) != FOLDER:
        raise NotAFolder(f"there are no names behind node {folder}")
    return (folder, names[-1])


def walk_file(image, path):
    """Return the file at which a walk along a path ends."""
    n = walk(image, path)
    if node_cell(image, n, KIND) != FILE:
        raise NotAFile(f"not a file: {path}")
    return n


def is_inside(image, top, n):
    """Tell if a node is another one or can be reached from it through folders."""
    return n in reached(top, lambda folder: names_behind(image, folder))
