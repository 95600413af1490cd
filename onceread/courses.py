"""Courses of a judge: rows of moves, with the letters that are read on them."""

from onceread.reaching import moves_from
from onceread.rows import all_rows, next_row, number_of_rows


class Courses:
    """The standings of a judge in a world as a graph. An edge is a move, and costs its letter."""

    def __init__(self, judge, world):
        self.judge = judge
        self.size = world.size
        self._world = world
        self._edges = {}

    def takes(self, standing):
        """Is a standing at a take?"""
        return self.judge.lines[standing[0]][0] == "take"

    def edges_from(self, here):
        """The moves from a standing."""
        if here not in self._edges:
            self._edges[here] = [edge_of(letter, there)
                                 for letter, there in moves_from(self.judge, self._world, here)]
        return self._edges[here]

    def leads(self, here, there):
        """Does one of the moves from a standing lead to another one?"""
        return there in [edge[2] for edge in self.edges_from(here)]

    def first_standing(self):
        """The first one of all standings."""
        return 0, (0,) * self.judge.registers

    def standing_behind(self, standing):
        """The next standing, ascending, or None behind the last one."""
        line, row = standing
        behind = next_row(row, self.size)
        if behind is not None:
            return line, behind
        if line + 1 == len(self.judge.lines):
            return None
        return line + 1, (0,) * self.judge.registers

    def number_of_standings(self):
        """How many standings there are."""
        return len(self.judge.lines) * number_of_rows(self.size, self.judge.registers)

    def all_standings(self):
        """A list of all standings, ascending."""
        rows = all_rows(self.size, self.judge.registers)
        return [(line, row) for line in range(len(self.judge.lines)) for row in rows]


def edge_of(letter, there):
    """The edge for a move."""
    if letter is None:
        return 0, (), there
    return 1, (letter,), there
