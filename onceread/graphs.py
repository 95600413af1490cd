"""Ways through a graph, and the least numbers of letters that name them.

A graph here is an object with a method edges_from(here), which returns the edges from a place:
a list of triples of the number of letters that the edge costs, the letters that name it, and
the place to which it leads, ascending by the letters that name them.
"""

from heapq import heappop, heappush


class Nearest:
    """The least numbers of letters of the ways from a start, found only as far as asked for."""

    def __init__(self, graph, start):
        self._graph = graph
        self.lengths = {}
        self.queue = [(0, start)]

    def length_to(self, goal):
        """The least number of letters of a way to a goal to which there is one."""
        while goal not in self.lengths:
            self._settle()
        return self.lengths[goal]

    def find_within(self, bound):
        """Find all places to which a way of at most so many letters leads."""
        while self.queue and self.queue[0][0] <= bound:
            self._settle()

    def _settle(self):
        length, here = heappop(self.queue)
        if here in self.lengths:
            return
        self.lengths[here] = length
        for cost, _, there in self._graph.edges_from(here):
            if there not in self.lengths:
                heappush(self.queue, (length + cost, there))


class Forward:
    """The least numbers of letters of the ways from a start that have at most so many steps."""

    def __init__(self, graph, start):
        self._graph = graph
        # Of the places that are reached so far: the letters, and the sum of all these.
        self.lengths = {start: 0}
        self.sum_of_lengths = 0
        # What was met for the first time, and what got another length, by the last step.
        self.newly = [start]
        self.fresh = [start]

    def go_on(self, bound=None):
        """Allow one step more. Ways of more letters than the bound may be left out.

        With a bound, there must be no steps without letters.
        """
        # Only ways with a step less are gone on with: their lengths are kept before they change.
        before = [(here, self.lengths[here]) for here in self.fresh]
        changed = {}
        self.newly = []
        for here, length in before:
            if bound is not None and length >= bound:
                continue
            for cost, _, there in self._graph.edges_from(here):
                if there not in self.lengths:
                    self.newly.append(there)
                    self.sum_of_lengths += length + cost
                elif length + cost < self.lengths[there]:
                    self.sum_of_lengths += length + cost - self.lengths[there]
                else:
                    continue
                self.lengths[there] = length + cost
                changed[there] = True
        self.fresh = list(changed)

    def find_all(self):
        """Allow any number of steps."""
        while self.fresh:
            self.go_on()

    def find_goal(self, goal, most):
        """Allow at most so many steps, or any number if most is None, as far as the goal needs it."""
        left = most
        while self.fresh and left != 0:
            self.go_on(self.lengths.get(goal))
            left = None if left is None else left - 1


def edges_into(graph, lengths, bound):
    """For each place, the edges that lead to it from places within so many letters of the start."""
    into = {}
    for here in lengths:
        if lengths[here] <= bound:
            for cost, _, there in graph.edges_from(here):
                into.setdefault(there, []).append((cost, here))
    return into


class Toward:
    """The least numbers of letters of ways to a target, by the numbers of steps they may have.

    Only such ways are looked for as may be parts of a way from the start to the target that has
    at most `bound` letters. The dict `lengths` gives the least letters from the start.
    """

    def __init__(self, into, target, lengths, bound):
        self.target = target
        self._into = into
        self._lengths = lengths
        self._room = bound
        # For each place pairs of steps and letters: the more steps, the fewer letters.
        self._told = {target: [(0, 0)]}
        self._fresh = [target]
        self._done = 0

    def least(self, here, most):
        """The least number of letters of a way from here with at most so many steps, or None.

        If most is None, any number of steps will do.
        """
        while self._fresh and (most is None or self._done < most):
            self._go_on()
        for number, length in reversed(self._told.get(here, [])):
            if most is None or number <= most:
                return length
        return None

    def _go_on(self):
        before = [(there, self._told[there][-1][1]) for there in self._fresh]
        changed = {}
        self._done += 1
        for there, length in before:
            for cost, here in self._into.get(there, []):
                if self._is_better(here, length + cost):
                    self._told.setdefault(here, []).append((self._done, length + cost))
                    changed[here] = True
        self._fresh = list(changed)

    def _is_better(self, here, length):
        if self._lengths[here] + length > self._room:
            return False
        return here not in self._told or length < self._told[here][-1][1]


def least_way(graph, toward, start, most):
    """The edges of the least way from the start to a target to which there is one."""
    way = []
    here, left = start, most
    rest = toward.least(start, most)
    while here != toward.target:
        left = None if left is None else left - 1
        for edge in graph.edges_from(here):
            cost, _, there = edge
            if toward.least(there, left) == rest - cost:
                break
        way.append(edge)
        here = there
        rest -= cost
    return way
