"""The plain reading of an image: its tree rows."""

from lotsandties.fields import FILE, FOLDER, KIND, LINKS, OWNER
from lotsandties.folders import folder_entries, names_behind
from lotsandties.nodes import node_cell
from lotsandties.signs import sign_path
from lotsandties.texts import words_of
from lotsandties.treepaths import all_paths, first_paths
from lotsandties.wordrows import file_words

# By the numbers of the kinds.
KIND_NAMES = ("unmade", "file", "folder", "sign")


def tree_paths(image):
    """Return the tuples of path and node of all paths of an image, ascending by path."""
    return all_paths(lambda n: names_behind(image, n))


def read_node_words(image, n):
    """Return the words of file n."""
    return file_words(image, n)


def _content(image, n):
    kind = node_cell(image, n, KIND)
    if kind == FILE:
        return read_node_words(image, n)
    if kind == FOLDER:
        return len(folder_entries(image, n))
    return sign_path(image, n)


def _tree_row(image, path, n, first):
    kind = KIND_NAMES[node_cell(image, n, KIND)]
    return (path, kind, first, node_cell(image, n, OWNER), node_cell(image, n, LINKS), _content(image, n))


def read_tree(image):
    """Return the tree rows of an image."""
    paths = tree_paths(image)
    firsts = first_paths(paths)
    return [_tree_row(image, path, n, firsts[n]) for path, n in paths]


def _row_text(row):
    path, kind, first, owner, links, content = row
    return " ".join(words_of((path, kind, owner, links, first, content)))


def rows_text(rows):
    """Return the written form of a list of tree rows."""
    return "\n".join([_row_text(row) for row in rows])


def tree_text(image):
    """Return the written form of the tree rows of an image."""
    return rows_text(read_tree(image))
