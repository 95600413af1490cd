"""The least right papers, letter by letter."""

from onceread.graphs import Toward, edges_into, least_way
from onceread.nodes import Walking
from onceread.outlines import outlines
from onceread.roundletters import round_letters
from onceread.rows import all_rows


def least_way_to_goal(graph, walking, lengths, most):
    """The edges of the least way to the goal of a walk with at most so many steps.

    The dict `lengths` gives the least letters from the start with at most so many steps.
    """
    bound = lengths[walking.goal]
    # No step costs fewer letters than the next tuple has.
    into = edges_into(graph, lengths, bound - walking.width)
    toward = Toward(into, walking.goal, lengths, bound)
    return least_way(graph, toward, walking.start, most)


class Spelling:
    """The least papers of the trees of one question. It is only asked for the side that holds."""

    def __init__(self, counting):
        self.counting = counting

    def least(self, node, yes, things):
        """A list of the letters of the least right paper for a side of a tree."""
        if self.counting.least(node, yes, things) == 0:
            return []
        if node.word != "walk":
            spelled = []
            for letters, part, side, inner in self._least_outline(node, yes, things):
                spelled.extend(letters)
                spelled.extend(self.least(part, side, inner))
            return spelled
        walking = Walking(node, things)
        graph = self.counting.graph_of(walking)
        if not yes:
            return round_letters(graph, walking.start, WalkLetters(self, walking))
        nearest = self.counting.ways_from(walking)
        nearest.length_to(walking.goal)
        return self.way(walking, least_way_to_goal(graph, walking, nearest.lengths, None))

    def way(self, walking, edges):
        """A list of the letters of a way."""
        spelled = []
        here = walking.start
        for _, letters, there in edges:
            spelled.extend(letters)
            spelled.extend(self.least(walking.step, True, walking.between(here, there)))
            here = there
        return spelled

    def _least_outline(self, node, yes, things):
        # The first one of the shortest ones: it begins with the least letters.
        best, least = None, None
        for outline in outlines(self.counting.truth, node, yes, things):
            length = self.counting.length_of(outline)
            if least is None or length < least:
                best, least = outline, length
        return best


class WalkLetters:
    """The letters of the no of a walk."""

    def __init__(self, spelling, walking):
        self._spelling = spelling
        self._walking = walking
        self._places = all_rows(spelling.counting.size, walking.width)

    def all_places(self):
        """A list of all tuples."""
        return self._places

    def way_letters(self, edges):
        """The letters of a way."""
        return self._spelling.way(self._walking, edges)

    def denial_letters(self, place, target):
        """The letters of the no of a step."""
        walking = self._walking
        return self._spelling.least(walking.step, False, walking.between(place, target))
