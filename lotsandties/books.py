"""Books of rules for stores with a log."""

from lotsandties.rulesets import RuleSet, numbered_names, written_names


class Book(RuleSet):
    """A set of the rules that say which steps wait for which."""

    RULES = (
        "copies",
        "mark",
        "words",
        "reuse",
        "late",
        "revoke",
        "lapse",
        "shelve",
        "frozen",
        "wait",
        "room",
        "told",
    )

    @staticmethod
    def read(text):
        """Return the book with a written form."""
        return Book(written_names(text, Book.RULES))

    @staticmethod
    def of_number(number):
        """Return the book with a number."""
        return Book(numbered_names(number, Book.RULES))

    @staticmethod
    def full():
        """Return the book that has all rules."""
        return Book(Book.RULES)

    def __or__(self, other):
        return Book([rule for rule in self.RULES if rule in self.names or rule in other.names])

    def __sub__(self, other):
        return Book([rule for rule in self.names if rule not in other.names])
