"""The facts on which a right paper rests."""

from onceread.asked import check_side, checked_things
from onceread.errors import NotRight
from onceread.readings import Reading


def rests_on(question, side, world, letters, values=()):
    """The facts that are looked at when the paper is read, and whether each stands."""
    check_side(side)
    things = checked_things(question, world, values)
    reading = Reading(question, world, letters)
    if not reading.is_right(side == "yes", things):
        raise NotRight()
    return tuple(sorted([(name, row, stands) for (name, row), stands in reading.looked.items()]))
