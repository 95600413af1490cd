"""Portions of right papers that are still to be chosen, letter by letter.

Each kind of portion has two methods. least() returns the fewest letters that it can have.
choices() returns what it can be, ascending: pairs of a row of letters and a list of portions
that stand behind them.
"""

from onceread.graphs import Forward, Toward, edges_into
from onceread.nodes import Walking
from onceread.outlines import outlines
from onceread.rows import all_rows


class Letters:
    """Letters that are known."""

    def __init__(self, row):
        self.row = row

    def least(self):
        """Their number."""
        return len(self.row)

    def choices(self):
        """The letters themselves."""
        return [(self.row, [])]


class Side:
    """A paper for the side of a tree that holds."""

    def __init__(self, stock, node, yes, things):
        self._stock = stock
        self._node = node
        self._yes = yes
        self._things = things

    def least(self):
        """The number of letters of the least paper."""
        return self._stock.counting.least(self._node, self._yes, self._things)

    def choices(self):
        """The outlines of the paper."""
        node = self._node
        if self._stock.counting.steady(node, self._yes) == 0:
            return [((), [])]
        if node.word != "walk":
            found = outlines(self._stock.counting.truth, node, self._yes, self._things)
            return [((), self._portions_of(outline)) for outline in found]
        walking = Walking(node, self._things)
        if not self._yes:
            return [((), self._stock.no_way(walking))]
        return [((), [Way(self._stock, walking, walking.goal, walking.start, None)])]

    def _portions_of(self, outline):
        portions = []
        for letters, part, yes, inner in outline:
            portions.append(Letters(letters))
            portions.append(Side(self._stock, part, yes, inner))
        return portions


class Way:
    """The rest of a way to a tuple, from the tuple here on, with at most so many steps."""

    def __init__(self, stock, walking, target, here, most):
        self._stock = stock
        self._walking = walking
        self._target = target
        self._here = here
        self._most = most

    def least(self):
        """The fewest letters of such a way."""
        return self._stock.toward(self._walking, self._target).least(self._here, self._most)

    def choices(self):
        """The next steps."""
        if self._here == self._target:
            return [((), [])]
        walking = self._walking
        left = None if self._most is None else self._most - 1
        toward = self._stock.toward(walking, self._target)
        found = []
        for _, letters, there in self._stock.counting.graph_of(walking).edges_from(self._here):
            if toward.least(there, left) is not None:
                step = Side(self._stock, walking.step, True, walking.between(self._here, there))
                found.append((letters, [step, Way(self._stock, walking, self._target, there, left)]))
        return found


class Stock:
    """What is needed again and again for the papers of at most `upto` letters of one question."""

    def __init__(self, counting, upto):
        self.counting = counting
        self._upto = upto
        self._lengths = {}
        self._into = {}
        self._towards = {}
        self._no_ways = {}

    def toward(self, walking, target):
        """The ways from the start of a walk to a tuple."""
        start = (walking.node.number, walking.outside, walking.start)
        if start not in self._lengths:
            nearest = self.counting.ways_from(walking)
            nearest.find_within(self._upto)
            self._lengths[start] = nearest.lengths
            self._into[start] = edges_into(self.counting.graph_of(walking), nearest.lengths, self._upto)
        key = (start, target)
        if key not in self._towards:
            self._towards[key] = Toward(self._into[start], target, self._lengths[start], self._upto)
        return self._towards[key]

    def no_way(self, walking):
        """The portions of the no of a walk."""
        key = (walking.node.number, walking.outside, walking.start)
        if key not in self._no_ways:
            self._no_ways[key] = self._rounds(walking)
        return self._no_ways[key]

    def _rounds(self, walking):
        forward = Forward(self.counting.graph_of(walking), walking.start)
        shown, most = {walking.start: True}, 0
        portions = []
        while True:
            forward.go_on()
            claimed = {row: True for row in forward.lengths}
            for row in all_rows(self.counting.size, walking.width):
                if row in claimed:
                    portions.append(Letters((1,)))
                    portions.append(Way(self, walking, row, walking.start, most + 1))
                else:
                    portions.append(Letters((0,)))
                    portions.extend(self._denial(walking, shown, row, most))
            if len(claimed) == len(shown):
                return portions
            shown = claimed
            most += 1

    def _denial(self, walking, shown, target, most):
        portions = []
        for row in all_rows(self.counting.size, walking.width):
            if row in shown:
                portions.append(Letters((1,)))
                portions.append(Way(self, walking, row, walking.start, most))
                portions.append(Side(self, walking.step, False, walking.between(row, target)))
            else:
                portions.append(Letters((0,)))
        return portions
