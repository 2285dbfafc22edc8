"""Written numbers, words, names and paths."""

from lotsandties.errors import BadText

DIGITS = "0123456789"
LETTERS = "abcdefghijklmnopqrstuvwxyz"
MOST_DIGITS = 12
MOST_LETTERS = 4
MOST_NAMES = 8
# Names are numbers in this base; the codes of all of them are less than CODES_END, 27 to the power of 4.
BASE = 27
CODES_END = 531441


def _is_written_number(word):
    if not 1 <= len(word) <= MOST_DIGITS or (word[0] == "0" and word != "0"):
        return False
    return all(sign in DIGITS for sign in word)


def read_number(word, most):
    """Return the number that is written."""
    if not _is_written_number(word):
        raise BadText(f"not a written number: {word}")
    number = int(word)
    if number > most:
        raise BadText(f"greater than {most}: {word}")
    return number


def split_words(line):
    """Return the words of a line that are separated by one space each."""
    if line == "":
        return []
    words = line.split(" ")
    if "" in words:
        raise BadText(f"a word is empty: {line}")
    return words


def words_of(parts):
    """Return the words of texts and numbers; the parts of a tuple among them follow one another."""
    words = []
    for part in parts:
        if isinstance(part, tuple):
            words.extend(words_of(part))
        else:
            words.append(str(part))
    return words


def is_name(text):
    """Tell if a text is a name."""
    return 1 <= len(text) <= MOST_LETTERS and all(letter in LETTERS for letter in text)


def is_path(text):
    """Tell if a text is a path."""
    if text == ".":
        return True
    names = text.split("/")
    return len(names) <= MOST_NAMES and all(is_name(name) for name in names)


def name_code(name):
    """Return the code of a name."""
    code = 0
    for letter in name:
        code = code * BASE + LETTERS.index(letter) + 1
    return code


def code_name(code):
    """Return the name that has a code, or a question mark."""
    if not 0 < code < CODES_END:
        return "?"
    name = ""
    while code > 0:
        digit = code % BASE
        if digit == 0:
            return "?"
        name = LETTERS[digit - 1] + name
        code = code // BASE
    return name
