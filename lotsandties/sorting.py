"""Sorting books: the least right ones, and the rules that make a book right."""

from lotsandties.books import Book
from lotsandties.errors import BadValue
from lotsandties.judge import is_right

MOST_NAMES = 4


def subset_numbers(number):
    """Return the numbers of all rule sets that have no rules but those of the set with a number, ascending."""
    return [k for k in range(number + 1) if k | number == number]


def least_numbers(numbers):
    """Return the numbers of rule sets that do not have all rules of another one among them, in their order."""
    return [number for number in numbers if not any(k != number and k & number == k for k in numbers)]


def least_books(base, names):
    """Return the least right books among those with the rules of a base and with some of the rules named."""
    if len(names) > MOST_NAMES:
        raise BadValue("more than four rules")
    free = Book(names) - base
    books = [base | Book.of_number(number) for number in subset_numbers(free.number)]
    right = least_numbers([book.number for book in books if is_right(book)])
    return [Book.of_number(number) for number in sorted(right)]


def _mends(book, rules):
    return is_right(book | Book(rules))


def mends(book):
    """Return the rules, alone and in pairs, that make a book right."""
    if is_right(book):
        return [()]
    lacking = [rule for rule in Book.RULES if rule not in book]
    alone = [rule for rule in lacking if _mends(book, (rule,))]
    others = [rule for rule in lacking if rule not in alone]
    pairs = [(rule, other) for k, rule in enumerate(others) for other in others[k + 1:]]
    return [(rule,) for rule in alone] + [pair for pair in pairs if _mends(book, pair)]
