"""Books of rules for stores without a log."""

from lotsandties.rulesets import RuleSet, numbered_names, written_names


class TieBook(RuleSet):
    """A set of the rules that say when nodes and entries may go to the disk."""

    RULES = ("first", "after", "keep", "numbered", "told")

    @staticmethod
    def read(text):
        """Return the book with a written form."""
        return TieBook(written_names(text, TieBook.RULES))

    @staticmethod
    def of_number(number):
        """Return the book with a number."""
        return TieBook(numbered_names(number, TieBook.RULES))

    @staticmethod
    def full():
        """Return the book that has all rules."""
        return TieBook(TieBook.RULES)

    def __or__(self, other):
        return TieBook([rule for rule in self.RULES if rule in self.names or rule in other.names])

    def __sub__(self, other):
        return TieBook([rule for rule in self.names if rule not in other.names])
