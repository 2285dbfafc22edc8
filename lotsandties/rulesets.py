"""Sets of names out of a fixed row of rules."""

from lotsandties.errors import BadText, BadValue


class RuleSet:
    """A set of rules; the classes below it name the row."""

    RULES = ()

    def __init__(self, names):
        for name in names:
            if name not in self.RULES:
                raise BadValue(f"no rule: {name}")
        self.names = tuple([rule for rule in self.RULES if rule in names])
        self.number = sum([1 << k for k, rule in enumerate(self.RULES) if rule in names])

    def __contains__(self, name):
        return name in self.names

    def __iter__(self):
        return iter(self.names)

    def text(self):
        """Return the written form."""
        return " ".join(self.names) if self.names else "none"


def written_names(text, rules):
    """Return the names out of the row of rules that a written form has."""
    names = [] if text == "none" else text.split(" ")
    # Only the names in the order of the row, each once, are a written form.
    if names != [rule for rule in rules if rule in names]:
        raise BadText(f"not a set of rules: {text}")
    return names


def numbered_names(number, rules):
    """Return the names out of the row of rules that a number stands for."""
    if not 0 <= number < 1 << len(rules):
        raise BadValue("not the number of a set of rules")
    return [rule for k, rule in enumerate(rules) if number >> k & 1]
