"""Right papers: which papers show that a question holds, or that it does not hold."""

from onceread.asked import check_side, checked_things
from onceread.readings import Reading


def is_right(question, side, world, letters, values=()):
    """Is this paper right for this side of the question?"""
    check_side(side)
    things = checked_things(question, world, values)
    return Reading(question, world, letters).is_right(side == "yes", things)
