"""Judging books of ties."""

from lotsandties.errors import BadValue
from lotsandties.exploring import explore, life_of
from lotsandties.sorting import least_numbers, subset_numbers
from lotsandties.tiebooks import TieBook
from lotsandties.tietable import tie_after, tie_bad, tie_letters, tie_start

MOST_ENTRIES = 3


def _explored(book, entries, *, whole=True):
    """Return what the lives of a book over some entries lead to, as explore does."""
    if not 1 <= entries <= MOST_ENTRIES:
        raise BadValue("from 1 to 3 entries")
    letters = list(tie_letters(entries))
    return explore(
        tie_start(entries),
        lambda standing: _behind(standing, letters, book),
        lambda found: tie_bad(found, book),
        whole=whole,
    )


def _behind(standing, letters, book):
    """Return the tuples of letter and standing behind a standing."""
    found = [(letter, tie_after(standing, letter, book)) for letter in letters]
    return [(letter, next_one) for letter, next_one in found if next_one is not None]


def tie_closed(book, *, entries=2):
    """Return all standings to which lives without bad standings lead."""
    return _explored(book, entries)[0]


def tie_shortest(book, *, entries=2):
    """Return the first of the shortest faulty lives, or None."""
    _, steps_to, fault = _explored(book, entries, whole=False)
    return None if fault is None else life_of(fault, steps_to)


def tie_is_right(book, *, entries=2):
    """Tell if a book has no faulty life."""
    return _explored(book, entries, whole=False)[2] is None


def tie_least(names, *, entries=2):
    """Return the least right books among those that have no rules but the ones named."""
    numbers = subset_numbers(TieBook(names).number)
    right = [number for number in numbers if tie_is_right(TieBook.of_number(number), entries=entries)]
    return [TieBook.of_number(number) for number in least_numbers(right)]
