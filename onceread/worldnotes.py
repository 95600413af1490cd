"""Worlds as texts."""

from onceread.errors import BadNote
from onceread.kinds import LARGEST_ARITY, is_between, is_name, is_row
from onceread.notes import lines_of, number_told, spaced
from onceread.worlds import LARGEST_WORLD, MOST_RELATIONS, SMALLEST_WORLD, World


def write_relation(name, arity, rows):
    """The line of a relation."""
    head = f"{name} {arity}:"
    if not rows:
        return head
    return head + " " + ", ".join([spaced(row) for row in rows])


def write_world(world):
    """The text of a world."""
    lines = [f"world {world.size}"]
    for name in world.names:
        lines.append(write_relation(name, world.arity(name), world.rows(name)))
    return "\n".join(lines)


def read_size(line):
    """The size that the first line tells, or None if the line is bad."""
    words = line.split(" ")
    if len(words) != 2 or words[0] != "world":
        return None
    size = number_told(words[1])
    return size if is_between(size, SMALLEST_WORLD, LARGEST_WORLD) else None


def read_rows(text, arity, size):
    """The rows of a relation, told behind its colon, or None if they are not told so."""
    if text == "":
        return []
    if text[0] != " ":
        return None
    rows = []
    for part in text[1:].split(", "):
        row = tuple([number_told(word) for word in part.split(" ")])
        if not is_row(row, arity, size) or (rows and row <= rows[-1]):
            return None
        rows.append(row)
    return rows


def read_relation(line, size):
    """The name, the arity and the rows that a line tells, or None if the line is bad."""
    head, colon, rest = line.partition(":")
    words = head.split(" ")
    if colon == "" or len(words) != 2 or not is_name(words[0]):
        return None
    arity = number_told(words[1])
    if not is_between(arity, 1, LARGEST_ARITY):
        return None
    rows = read_rows(rest, arity, size)
    return None if rows is None else (words[0], arity, rows)


def read_world(text):
    """The world of a text."""
    lines = lines_of(text)
    size = read_size(lines[0])
    if size is None:
        raise BadNote(1)
    relations = []
    for at, line in enumerate(lines[1:], start=2):
        entry = read_relation(line, size)
        if entry is None or len(relations) == MOST_RELATIONS:
            raise BadNote(at)
        if relations and entry[0] <= relations[-1][0]:
            raise BadNote(at)
        relations.append(entry)
    return World(size, relations)
