"""The numbers of letters of least right papers, counted without the papers."""

from onceread.graphs import Nearest
from onceread.nodes import Walking, things_for
from onceread.outlines import outlines
from onceread.roundcounts import SteadyDenials, letters_of_rounds
from onceread.rows import all_rows, number_of_rows
from onceread.steadies import steady_lengths
from onceread.trees import BINDERS
from onceread.truths import Truth


class StepGraph:
    """The steps of a walk. An edge costs the next tuple and the least paper for the step."""

    def __init__(self, counting, walking):
        self._counting = counting
        self._walking = walking
        self._around = dict(zip(walking.node.around, walking.outside))
        self._edges = {}

    def edges_from(self, here):
        """The edges from a tuple."""
        if here not in self._edges:
            self._edges[here] = [self._edge(here, there) for there in self._steps_from(here)]
        return self._edges[here]

    def _steps_from(self, here):
        return self._counting.truth.steps(self._walking.node, self._around, here)

    def _edge(self, here, there):
        walking = self._walking
        cost = self._counting.least(walking.step, True, walking.between(here, there))
        return walking.width + cost, there, there


class Denials:
    """The letters for the denials of steps from all shown tuples to all tuples not claimed."""

    def __init__(self, counting, walking):
        self._counting = counting
        self._walking = walking
        self._sums = {row: 0 for row in all_rows(counting.size, walking.width)}

    def claim(self, rows):
        """Claim these tuples."""
        for row in rows:
            del self._sums[row]

    def show(self, rows):
        """Show these tuples, too."""
        walking = self._walking
        for row in rows:
            for target in list(self._sums):
                things = walking.between(row, target)
                self._sums[target] += self._counting.least(walking.step, False, things)

    def number_of_letters(self):
        """The letters for all denials."""
        return sum(list(self._sums.values()))


class Counting:
    """The least right papers of the trees of one question in one world are counted here.

    It remembers what it has worked out. It is only asked for the side that holds.
    """

    def __init__(self, question, world):
        self.truth = Truth(question, world)
        self.size = world.size
        self._steady = {}
        self._least = {}
        self._graphs = {}
        self._nearest = {}
        self._no_ways = {}
        steady_lengths(self.truth.root, self.size, self._steady)

    def steady(self, node, yes):
        """The number of letters for this side, if it is the same wherever the side holds."""
        return self._steady[node.number][0 if yes else 1]

    def least(self, node, yes, things):
        """The number of letters of the least right paper for a side of a tree."""
        length = self.steady(node, yes)
        if length is not None:
            return length
        if node.word not in BINDERS:
            return self._least_outlined(node, yes, things)
        row = things_for(node.needs, things)
        key = (node.number, row)
        if key not in self._least:
            self._least[key] = self._least_bound(node, yes, dict(zip(node.needs, row)))
        return self._least[key]

    def length_of(self, outline):
        """The number of letters of the least paper that an outline allows."""
        return sum([len(letters) + self.least(part, yes, inner) for letters, part, yes, inner in outline])

    def graph_of(self, walking):
        """The steps of a walk as a graph."""
        key = (walking.node.number, walking.outside)
        if key not in self._graphs:
            self._graphs[key] = StepGraph(self, walking)
        return self._graphs[key]

    def ways_from(self, walking):
        """The ways from the start of a walk."""
        key = (walking.node.number, walking.outside, walking.start)
        if key not in self._nearest:
            self._nearest[key] = Nearest(self.graph_of(walking), walking.start)
        return self._nearest[key]

    def _least_outlined(self, node, yes, things):
        return min([self.length_of(outline) for outline in outlines(self.truth, node, yes, things)])

    def _least_bound(self, node, yes, things):
        if node.word != "walk":
            return self._least_outlined(node, yes, things)
        walking = Walking(node, things)
        if yes:
            return self.ways_from(walking).length_to(walking.goal)
        # The goal is never claimed, but the letters are as many wherever it is.
        key = (node.number, walking.outside, walking.start)
        if key not in self._no_ways:
            self._no_ways[key] = self._least_no_way(walking)
        return self._no_ways[key]

    def _least_no_way(self, walking):
        number = number_of_rows(self.size, walking.width)
        steady = self.steady(walking.step, False)
        if steady is None:
            denials = Denials(self, walking)
        else:
            denials = SteadyDenials(number, steady)
        return letters_of_rounds(self.graph_of(walking), walking.start, number, denials)
