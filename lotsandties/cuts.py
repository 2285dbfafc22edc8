"""All disks that a stop may leave, and where two disks differ."""

from lotsandties.errors import BadValue

MOST_NUMBERS = 8


def keeps(numbers):
    """Yield all sublists of a list of numbers as tuples."""
    if len(numbers) > MOST_NUMBERS:
        raise BadValue("more than 8 numbers")
    for count in range(1 << len(numbers)):
        yield tuple([number for k, number in enumerate(numbers) if count >> k & 1])


def cut_disks(disk):
    """Yield each choice of pending writes with the disk that is found if they are kept."""
    numbers = [write[0] for write in disk.pending()]
    for keep in keeps(numbers):
        yield (keep, disk.cut(keep))


def _places_apart(kind, first, second):
    return [(kind, at) for at, (one, other) in enumerate(zip(first, second)) if one != other]


def differences(first, second):
    """Return the places at which two disks of one plan differ."""
    if first.plan.text() != second.plan.text():
        raise BadValue("disks of two plans")
    places = _places_apart("home", first.home, second.home) + _places_apart("log", first.log, second.log)
    if first.head != second.head:
        places.append(("head",))
    return places
