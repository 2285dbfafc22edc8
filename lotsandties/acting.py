"""Doing deeds on images."""

from lotsandties.deeds import check_deed
from lotsandties.errors import NotOpen, Unfinished
from lotsandties.fields import FILE, FOLDER, SIGN
from lotsandties.naming import link_name, make_name, remove_folder, rename_name, resign_name, unlink_name
from lotsandties.owners import change_owner, put_limit
from lotsandties.removing import begin_removal, has_links, is_in_use, one_piece
from lotsandties.sizes import enlist, free_piece, set_size, unfinished
from lotsandties.walks import walk, walk_file
from lotsandties.wordrows import write_words


def _do_file(image, deed):
    return make_name(image, deed[1], FILE, deed[2])


def _do_folder(image, deed):
    return make_name(image, deed[1], FOLDER, deed[2])


def _do_sign(image, deed):
    return make_name(image, deed[1], SIGN, deed[2], text=deed[3])


def _do_resign(image, deed):
    resign_name(image, deed[1], deed[2])
    return 0


def _do_link(image, deed):
    link_name(image, deed[1], deed[2])
    return 0


def _let_go(image, n):
    """Remove a node that lost its last name; 0 stands for no node."""
    if n == 0:
        return 0
    if is_in_use(image, n):
        enlist(image, n)
        return 0
    return begin_removal(image, n)


def _do_unlink(image, deed):
    return _let_go(image, unlink_name(image, deed[1]))


def _do_rmdir(image, deed):
    remove_folder(image, deed[1])
    return 0


def _do_rename(image, deed):
    return _let_go(image, rename_name(image, deed[1], deed[2]))


def _do_write(image, deed):
    write_words(image, walk_file(image, deed[1]), deed[2], deed[3])
    return 0


def _do_cut(image, deed):
    n = walk_file(image, deed[1])
    if unfinished(image, n):
        raise Unfinished("the file has blocks behind its size")
    set_size(image, n, deed[2])
    freed = free_piece(image, n)
    if unfinished(image, n):
        enlist(image, n)
    return freed


def _do_own(image, deed):
    change_owner(image, walk(image, deed[1]), deed[2])
    return 0


def _do_limit(image, deed):
    put_limit(image, deed[1], deed[2])
    return 0


def _do_open(image, deed):
    n = walk_file(image, deed[1])
    image.handles[n] = image.handles.get(n, 0) + 1
    return n


def _do_shut(image, deed):
    n = deed[1]
    if not is_in_use(image, n):
        raise NotOpen(f"node {n} is not open")
    image.handles[n] -= 1
    if image.handles[n] > 0:
        return 0
    del image.handles[n]
    return 0 if has_links(image, n) else begin_removal(image, n)


def _do_piece(image, deed):
    return one_piece(image, deed[1])


ACTIONS = {
    "file": _do_file,
    "folder": _do_folder,
    "sign": _do_sign,
    "resign": _do_resign,
    "link": _do_link,
    "unlink": _do_unlink,
    "rmdir": _do_rmdir,
    "rename": _do_rename,
    "write": _do_write,
    "cut": _do_cut,
    "own": _do_own,
    "limit": _do_limit,
    "open": _do_open,
    "shut": _do_shut,
    "piece": _do_piece,
}


def do_deed(image, deed, *, wish=0, barred=()):
    """Do a deed on a twin of an image; return the twin and the answer."""
    check_deed(deed)
    after = image.twin()
    after.begin(wish, barred)
    action = ACTIONS[deed[0]]
    answer = action(after, deed)
    after.settle(image)
    return (after, answer)


def do_deeds(image, *deeds, wish=0, barred=()):
    """Do deeds one after the other; return the last image and the list of the answers."""
    after = image.twin()
    answers = []
    for deed in deeds:
        after, answer = do_deed(after, deed, wish=wish, barred=barred)
        answers.append(answer)
    return (after, answers)
