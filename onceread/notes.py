"""Notes: texts of lines that are written in one way only."""

LONGEST_NUMBER = 18
# More than any text has letters or lines.
BEYOND_ALL = 1000000000000000000


def lines_of(text):
    """The lines of a text."""
    return text.split("\n")


def spaced(members):
    """Names and numbers, separated by single blanks."""
    return " ".join([str(member) for member in members])


def number_told(word):
    """The number that a word tells, or None if no number is written so."""
    if not word.isascii() or not word.isdigit():
        return None
    if word[0] == "0" and len(word) > 1:
        return None
    # Python refuses to read numbers of very many digits; what they tell exactly does not matter.
    return int(word) if len(word) <= LONGEST_NUMBER else BEYOND_ALL
