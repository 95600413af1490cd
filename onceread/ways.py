"""The least way of a walk."""

from onceread.asked import check_walk, checked_things
from onceread.counting import Counting
from onceread.graphs import Forward
from onceread.nodes import Walking
from onceread.spelling import Spelling, least_way_to_goal


def cheapest_way(question, world, *, values=(), most=None):
    """The letters of the least way to the goal with at most so many steps, or None."""
    check_walk(question)
    things = checked_things(question, world, values)
    counting = Counting(question, world)
    walking = Walking(counting.truth.root, things)
    graph = counting.graph_of(walking)
    forward = Forward(graph, walking.start)
    forward.find_goal(walking.goal, most)
    if walking.goal not in forward.lengths:
        return None
    edges = least_way_to_goal(graph, walking, forward.lengths, most)
    return tuple(Spelling(counting).way(walking, edges))
