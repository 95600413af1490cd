"""Papers as texts."""

from onceread.errors import BadLetter, BadNote, BadSide
from onceread.kinds import is_thing
from onceread.notes import lines_of, number_told, spaced
from onceread.worlds import LARGEST_WORLD

WORDS = ("yes", "no", "taken", "never")
LETTERS_IN_LINE = 20


def write_paper(word, letters):
    """The text of a paper."""
    if word not in WORDS:
        raise BadSide(word)
    for letter in letters:
        if not is_thing(letter, LARGEST_WORLD):
            raise BadLetter(letter)
    lines = [f"paper {word} {len(letters)}"]
    for at in range(0, len(letters), LETTERS_IN_LINE):
        lines.append(spaced(letters[at:at + LETTERS_IN_LINE]))
    return "\n".join(lines)


def read_head(line):
    """The word and the number of letters that the first line tells, or None if the line is bad."""
    words = line.split(" ")
    if len(words) != 3 or words[0] != "paper" or words[1] not in WORDS:
        return None
    number = number_told(words[2])
    return None if number is None else (words[1], number)


def read_letters(line, number):
    """A list of the letters of a line that has to have so many, or None if the line is bad."""
    letters = [number_told(word) for word in line.split(" ")]
    if len(letters) != number or not all([is_thing(letter, LARGEST_WORLD) for letter in letters]):
        return None
    return letters


def read_paper(text):
    """The word and the letters of a text."""
    lines = lines_of(text)
    head = read_head(lines[0])
    if head is None:
        raise BadNote(1)
    word, number = head
    letters = []
    for at, line in enumerate(lines[1:], start=2):
        told = read_letters(line, min(LETTERS_IN_LINE, number - len(letters)))
        if told is None:
            raise BadNote(at)
        letters.extend(told)
    if len(letters) < number:
        raise BadNote(len(lines) + 1)
    return word, tuple(letters)
