"""Deeds by chance, for tests of many steps."""

NAMES = "abc"
KINDS = (
    "file file file folder folder sign resign link unlink unlink rmdir rename rename write write write write cut cut "
    "own open shut piece piece limit"
).split()


def random_path(chance):
    """A path of one to three names; sometimes the root."""
    if chance.random() < 0.02:
        return "."
    return "/".join(chance.choice(NAMES) for _ in range(chance.choice((1, 1, 1, 2, 2, 3))))


def random_text(chance):
    path = random_path(chance)
    return "a" if path == "." else path


def random_words(chance):
    return tuple(chance.randrange(1, 1000) for _ in range(chance.choice((1, 2, 3, 8, 16, 16))))


def random_deed(chance):
    """Any deed, over few names, so that many deeds meet."""
    kind = chance.choice(KINDS)
    path = random_path(chance)
    if kind in ("file", "folder", "own"):
        return (kind, path, chance.randrange(4))
    if kind == "sign":
        return (kind, path, chance.randrange(4), random_text(chance))
    if kind == "resign":
        return (kind, path, random_text(chance))
    if kind in ("link", "rename"):
        return (kind, path, random_path(chance))
    if kind == "write":
        return (kind, path, chance.choice((0, 0, 8, 16, 40, chance.randrange(90))), random_words(chance))
    if kind == "cut":
        return (kind, path, chance.choice((0, 0, 8, chance.randrange(90))))
    if kind == "limit":
        return (kind, chance.randrange(4), chance.choice((0, 0, 1, 2, 3, 6)))
    return (kind, chance.randrange(1, 8)) if kind in ("shut", "piece") else (kind, path)
