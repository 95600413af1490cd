"""Least right papers."""

from onceread.asked import checked_things
from onceread.counting import Counting
from onceread.errors import TooLong
from onceread.spelling import Spelling


def paper(question, world, *, values=(), limit=100000):
    """The side that has right papers, and the least one of them."""
    things = checked_things(question, world, values)
    counting = Counting(question, world)
    root = counting.truth.root
    yes = counting.truth.value(root, things)
    length = counting.least(root, yes, things)
    if length > limit:
        raise TooLong(length)
    return "yes" if yes else "no", tuple(Spelling(counting).least(root, yes, things))
