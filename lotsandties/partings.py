"""Partings: where two books first differ, and books without the rules that make no difference."""

from lotsandties.books import Book
from lotsandties.exploring import explore, life_of
from lotsandties.letters import after
from lotsandties.standings import LETTERS, START, is_bad

PARTED = ("parted",)


def _behind(standing, book, other):
    """Return the tuples of letter and good standing that two books share; a letter that parts them leads to PARTED."""
    found = []
    for letter in LETTERS:
        first = after(standing, letter, book)
        if first != after(standing, letter, other):
            found.append((letter, PARTED))
        elif first is not None and not is_bad(first):
            found.append((letter, first))
    return found


def _is_parted(standing):
    return standing == PARTED


def parting(book, other):
    """Return the first life that parts two books, or None if they are alike."""
    _, steps_to, fault = explore(START, lambda standing: _behind(standing, book, other), _is_parted, whole=False)
    return None if fault is None else life_of(fault, steps_to)


def plain_book(book):
    """Return a book without the rules that make no difference, taken away in the order of the row."""
    left = book
    for rule in book:
        fewer = left - Book((rule,))
        if parting(fewer, left) is None:
            left = fewer
    return left
