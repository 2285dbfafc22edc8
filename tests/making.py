"""Deeds and rows by chance, for tests of many steps."""

from lotsandties.plan import Plan
from lotsandties.playing import play
from lotsandties.store import Store

NAMES = "abc"
KINDS = (
    "file file file folder folder sign resign link unlink unlink rmdir rename rename write write write write cut cut "
    "own open shut piece piece limit"
).split()


def random_path(chance):
    """A path of one to three names; sometimes the root."""
    if chance.random() < 0.02:
        return "."
    return "/".join(chance.choice(NAMES) for _ in range(chance.choice((1, 1, 1, 2, 2, 3))))


def random_text(chance):
    path = random_path(chance)
    return "a" if path == "." else path


def random_words(chance):
    return tuple(chance.randrange(1, 1000) for _ in range(chance.choice((1, 2, 3, 8, 16, 16))))


def random_deed(chance):
    """Any deed, over few names, so that many deeds meet."""
    kind = chance.choice(KINDS)
    path = random_path(chance)
    if kind in ("file", "folder", "own"):
        return (kind, path, chance.randrange(4))
    if kind == "sign":
        return (kind, path, chance.randrange(4), random_text(chance))
    if kind == "resign":
        return (kind, path, random_text(chance))
    if kind in ("link", "rename"):
        return (kind, path, random_path(chance))
    if kind == "write":
        return (kind, path, chance.choice((0, 0, 8, 16, 40, chance.randrange(90))), random_words(chance))
    if kind == "cut":
        return (kind, path, chance.choice((0, 0, 8, chance.randrange(90))))
    if kind == "limit":
        return (kind, chance.randrange(4), chance.choice((0, 0, 1, 2, 3, 6)))
    return (kind, chance.randrange(1, 8)) if kind in ("shut", "piece") else (kind, path)


ROWS = (
    "do do do do do do close copy copy copies copies mark mark home homes early words sent room told sure sure barrier"
).split()


def random_rows(chance, store):
    """Rows that a store may be asked to do next, mostly such as can be done."""
    kind = chance.choice(ROWS)
    blocks = range(store.plan.blocks)
    if kind == "do":
        return [("do", chance.randrange(store.plan.blocks), random_deed(chance))]
    if kind in ("close", "mark", "room", "told", "barrier"):
        return [(kind,)]
    if kind == "copies":
        return [("copy", x) for x in store.due()]
    if kind == "homes":
        return [("home", x) for x in blocks if store.home_ids[x] != store.committed.identity(x)]
    if kind == "sent":
        return [("words", x) for x in blocks if store.image.kind(x) == 2]
    if kind == "sure":
        pending = store.disk.pending()
        return [("sure", chance.choice(pending)[0] if pending else 1)]
    if kind == "copy":
        return [("copy", chance.choice(store.due() or [0]))]
    return [(kind, chance.choice(blocks))]


def random_store(chance, book, many):
    """A store after rows by chance, and these rows."""
    store = Store(Plan(chance.choice((14, 17, 20)), nodes=chance.choice((4, 6)), slots=chance.choice((21, 40))), book)
    played = []
    for _ in range(many):
        rows = random_rows(chance, store)
        play(store, rows)
        played.extend(rows)
    return store, played
