"""How long the least right paper is."""

from onceread.asked import checked_things
from onceread.counting import Counting


def paper_length(question, world, values=()):
    """The number of letters of the least paper that is right for the side that has such papers."""
    things = checked_things(question, world, values)
    counting = Counting(question, world)
    root = counting.truth.root
    return counting.least(root, counting.truth.value(root, things), things)
