"""Judging books: all standings of their sound lives, and the first faulty life."""

from lotsandties.exploring import explore, life_of
from lotsandties.letters import after
from lotsandties.standings import LETTERS, START, is_bad


def _behind(standing, book):
    """Return the tuples of letter and standing behind a standing."""
    found = [(letter, after(standing, letter, book)) for letter in LETTERS]
    return [(letter, next_one) for letter, next_one in found if next_one is not None]


class Table:
    """The standings to which the sound lives of a book lead."""

    def __init__(self, book):
        self.book = book
        order, steps_to, fault = explore(START, lambda standing: _behind(standing, book), is_bad)
        self._order = order
        self._steps_to = steps_to
        self._fault = fault

    @property
    def right(self):
        """Tell if the book has no faulty life."""
        return self._fault is None

    def __contains__(self, standing):
        return standing in self._steps_to

    def __iter__(self):
        return iter(self._order)

    def closed(self):
        """Return the standings, in the order of the first sound lives that lead to them."""
        return list(self._order)

    def life_to(self, standing):
        """Return the first sound life that leads to a standing, or None."""
        if standing not in self._steps_to:
            return None
        return life_of(self._steps_to[standing], self._steps_to)

    def shortest(self):
        """Return the first faulty life, or None."""
        return None if self._fault is None else life_of(self._fault, self._steps_to)


def is_right(book):
    """Tell if a book has no faulty life."""
    found = explore(START, lambda standing: _behind(standing, book), is_bad, whole=False)
    return found[2] is None
