"""The written forms of lives, standings and tables."""

from lotsandties.errors import BadText, BadValue
from lotsandties.judge import Table
from lotsandties.letters import let_letters
from lotsandties.standings import LETTERS, LOST, is_standing
from lotsandties.texts import split_words


def _are_letters(life):
    return all(letter in LETTERS for letter in life)


def life_text(life):
    """Return the written form of a life."""
    if not _are_letters(life):
        raise BadValue("not a life")
    return " ".join(life) if life else "none"


def read_life(text):
    """Return the life with a written form."""
    if text == "none":
        return []
    life = split_words(text)
    if len(life) == 0 or not _are_letters(life):
        raise BadText(f"not a life: {text}")
    return life


def standing_text(standing):
    """Return the written form of a standing."""
    if not is_standing(standing):
        raise BadValue("not a standing")
    return "".join(standing)


def read_standing(text):
    """Return the standing with a written form."""
    standing = LOST if text == "lost" else tuple(text)
    if not is_standing(standing):
        raise BadText(f"not a standing: {text}")
    return standing


def _table_line(number, standing, book):
    return " ".join([f"{number:>3}", standing_text(standing)] + let_letters(standing, book))


def table_text(book):
    """Return the written form of the table of a book."""
    table = Table(book)
    verdict = "right" if table.right else "wrong " + life_text(table.shortest())
    lines = [f"book {book.text()}", verdict]
    for k, standing in enumerate(table):
        lines.append(_table_line(k + 1, standing, book))
    return "\n".join(lines)
