"""The paths of a tree of names."""

from lotsandties.fields import ROOT


def _joined(path, name):
    return name if path == "." else f"{path}/{name}"


def all_paths(names_of):
    """Return the tuples of path and node of all paths, ascending by path.

    names_of is a function from a node to the list of the tuples of name and child behind it.
    """
    paths = [(".", ROOT)]
    at = 0
    while at < len(paths):
        path, n = paths[at]
        paths.extend([(_joined(path, name), child) for name, child in names_of(n)])
        at += 1
    return sorted(paths)


def first_paths(paths):
    """Return the dict from nodes to their first paths, in the order of these paths."""
    firsts = {}
    for path, n in paths:
        if n not in firsts:
            firsts[n] = path
    return firsts
