"""Names: making, linking, removing and moving them."""

from lotsandties.errors import (
    FolderFull,
    FolderNotEmpty,
    IntoItself,
    NameTaken,
    NoSuchName,
    NotAFile,
    NotAFolder,
    NotASign,
    TooManyLinks,
)
from lotsandties.fields import FOLDER, KIND, LINKS, SIGN
from lotsandties.folders import MOST_NAMES, add_entry, drop_entry, find_child, folder_entries, put_child
from lotsandties.nodes import make_node, node_cell, put_node_cell, unmake_node
from lotsandties.signs import put_sign_path
from lotsandties.walks import is_inside, walk, walk_parent

MOST_LINKS = 60


def _is_folder(image, n):
    return node_cell(image, n, KIND) == FOLDER


def _check_not_taken(image, folder, name):
    if find_child(image, folder, name):
        raise NameTaken(f"the folder has the name {name}")


def _named_child(image, folder, name):
    child = find_child(image, folder, name)
    if child == 0:
        raise NoSuchName(f"the folder does not have the name {name}")
    return child


def _add_link(image, n):
    put_node_cell(image, n, LINKS, node_cell(image, n, LINKS) + 1)


def _drop_link(image, n):
    """Take a link from a node; return the node if it has none any more, and 0 otherwise."""
    links = node_cell(image, n, LINKS) - 1
    put_node_cell(image, n, LINKS, links)
    return n if links == 0 else 0


def _add_node(image, folder, name, kind, owner, text):
    n = make_node(image, kind, owner)
    if kind == SIGN:
        put_sign_path(image, n, text)
    add_entry(image, folder, name, n)
    _add_link(image, n)
    return n


def make_name(image, path, kind, owner, *, text=""):
    """Make a node with a name and return it."""
    folder, name = walk_parent(image, path)
    _check_not_taken(image, folder, name)
    if len(folder_entries(image, folder)) == MOST_NAMES:
        raise FolderFull("the folder has eight names")
    # Tried on a twin first: a block may be refused when the node is made and other blocks are taken.
    _add_node(image.twin(), folder, name, kind, owner, text)
    return _add_node(image, folder, name, kind, owner, text)


def resign_name(image, path, text):
    """Give a sign another text."""
    n = walk(image, path, follow=False)
    if node_cell(image, n, KIND) != SIGN:
        raise NotASign(f"not a sign: {path}")
    put_sign_path(image, n, text)


def link_name(image, path, new):
    """Give a file or a sign one more name."""
    n = walk(image, path, follow=False)
    if _is_folder(image, n):
        raise NotAFile(f"a folder has one name only: {path}")
    folder, name = walk_parent(image, new)
    _check_not_taken(image, folder, name)
    if node_cell(image, n, LINKS) >= MOST_LINKS:
        raise TooManyLinks("a node has at most 60 links")
    add_entry(image, folder, name, n)
    _add_link(image, n)


def unlink_name(image, path):
    """Remove a name of a file or a sign; return the node if it has no links any more, and 0 otherwise."""
    folder, name = walk_parent(image, path)
    child = _named_child(image, folder, name)
    if _is_folder(image, child):
        raise NotAFile(f"a folder: {path}")
    drop_entry(image, folder, name)
    return _drop_link(image, child)


def remove_folder(image, path):
    """Remove an empty folder."""
    folder, name = walk_parent(image, path)
    child = _named_child(image, folder, name)
    if not _is_folder(image, child):
        raise NotAFolder(f"not a folder: {path}")
    if len(folder_entries(image, child)) > 0:
        raise FolderNotEmpty(f"the folder has names: {path}")
    drop_entry(image, folder, name)
    unmake_node(image, child)


def _move_entry(image, old, new, n):
    """Give a node a new entry in place of the old one; each is a tuple of folder and name."""
    drop_entry(image, old[0], old[1])
    add_entry(image, new[0], new[1], n)


def rename_name(image, path, new):
    """Move a name; return the node that lost its last name by this, or 0."""
    folder, name = walk_parent(image, path)
    moved = _named_child(image, folder, name)
    target, new_name = walk_parent(image, new)
    former = find_child(image, target, new_name)
    if former == moved:
        return 0
    if is_inside(image, moved, target):
        raise IntoItself(f"{path} cannot be moved to {new}")
    if former:
        if _is_folder(image, former) or _is_folder(image, moved):
            raise NameTaken(f"the folder has the name {new_name}")
        drop_entry(image, folder, name)
        put_child(image, target, new_name, moved)
        return _drop_link(image, former)
    # Tried on a twin first: the new entry may be refused when the old one is dropped.
    _move_entry(image.twin(), (folder, name), (target, new_name), moved)
    _move_entry(image, (folder, name), (target, new_name), moved)
    return 0
