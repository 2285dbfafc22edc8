"""Trees of names, and the paths in them.

names_of is everywhere a function from a node to the list of the tuples of name and child behind it.
"""

from lotsandties.fields import ROOT


def reached(top, names_of):
    """Return a node and all nodes that are reached from it, each once."""
    met = [top]
    at = 0
    while at < len(met):
        children = [child for _, child in names_of(met[at])]
        for child in children:
            if child not in met:
                met.append(child)
        at += 1
    return met


def joined(path, name):
    """Return the path of a name in the folder with a path."""
    return name if path == "." else f"{path}/{name}"


def all_paths(names_of):
    """Return the tuples of path and node of all paths, ascending by path."""
    paths = [(".", ROOT)]
    at = 0
    while at < len(paths):
        path, n = paths[at]
        paths.extend([(joined(path, name), child) for name, child in names_of(n)])
        at += 1
    return sorted(paths)


def first_paths(paths):
    """Return the dict from nodes to their first paths, in the order of these paths."""
    firsts = {}
    for path, n in paths:
        if n not in firsts:
            firsts[n] = path
    return firsts
