"""Standings of a judge in a world: a line and the things that the registers hold."""

from onceread.asked import check_relations
from onceread.errors import BadGiven, BadStanding
from onceread.kinds import is_between, is_row, is_sequence

ENDS = ("take", "refuse")


def beginning(judge, world, given):
    """The standing at which a judge begins when it is given these things."""
    check_relations(judge.uses, world)
    if not is_row(given, judge.given, world.size):
        raise BadGiven()
    return 0, tuple(given) + (0,) * (judge.registers - judge.given)


def checked_standing(judge, world, standing):
    """A standing of the judge in the world, with tuples throughout."""
    check_relations(judge.uses, world)
    if not is_sequence(standing) or len(standing) != 2:
        raise BadStanding()
    line, row = standing
    if not is_between(line, 0, len(judge.lines) - 1) or not is_row(row, judge.registers, world.size):
        raise BadStanding()
    return line, tuple(row)


def may_read(instruction, letter, size):
    """May this letter be read here, in a world of this size?"""
    return is_between(letter, 0, 1 if instruction[0] == "claim" else size - 1)


def letters_for(instruction, size):
    """The letters with which a judge can move from here; None where it reads nothing."""
    word = instruction[0]
    if word == "read":
        return list(range(size))
    if word == "claim":
        return [0, 1]
    return [] if word in ENDS else [None]


def fact_looked_at(instruction, row):
    """The fact that a `fact` instruction looks at."""
    return instruction[1], tuple([row[at] for at in instruction[2]])


def carry_out(instruction, row, world, letter):
    """Do in the registers what an instruction does. True if it goes to the line it names."""
    word = instruction[0]
    if word == "go":
        return True
    if word == "claim":
        return letter == 1
    if word == "fact":
        return fact_looked_at(instruction, row) in world
    at = instruction[1]
    if word == "first":
        return row[at] == 0
    if word == "same":
        return row[at] == row[instruction[2]]
    if word == "copy":
        row[at] = row[instruction[2]]
    elif word == "read":
        row[at] = letter
    elif word == "step" and row[at] < world.size - 1:
        row[at] += 1
    else:
        # Zero, or a step beyond the last thing, which alone goes to its line.
        row[at] = 0
        return word == "step"
    return False


def line_behind(instruction, line, jumped):
    """The line that is next."""
    return instruction[-1] if jumped else line + 1
