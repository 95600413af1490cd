"""The rounds of a paper that is right for the no of a walk."""

from onceread.asked import check_walk, checked_things
from onceread.errors import NotRight
from onceread.readings import Reading


def rounds_told(question, world, letters, values=()):
    """A triple for each round: its number, its count, and the tuples that are claimed in it."""
    check_walk(question)
    things = checked_things(question, world, values)
    reading = Reading(question, world, letters)
    if not reading.is_right(False, things):
        raise NotRight()
    # The walk around all others is read to its end last.
    return reading.rounds
