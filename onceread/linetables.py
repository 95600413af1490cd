"""Line tables: they show that two judges come to the same verdict on every paper."""

from onceread.comparing import core_of, lines_behind, lines_stood_for
from onceread.kinds import is_between, is_sequence


class Comparison:
    """Two judges whose lines are compared."""

    def __init__(self, one, two):
        self.one = one
        self.two = two
        self.stood_for = (lines_stood_for(one), lines_stood_for(two))

    def is_pair(self, value):
        """Is it a pair of a line of the first judge and a line of the second one?"""
        if not is_sequence(value) or len(value) != 2:
            return False
        return is_between(value[0], 0, len(self.one.lines) - 1) and is_between(value[1], 0, len(self.two.lines) - 1)

    def pairs_behind(self, pair):
        """The pairs that have to be in each good table with this one, or None if none is good."""
        i, j = self.stood_for[0][pair[0]], self.stood_for[1][pair[1]]
        if i is None or j is None:
            return [] if i == j else None
        if core_of(self.one.lines[i]) != core_of(self.two.lines[j]):
            return None
        return list(zip(lines_behind(self.one, i), lines_behind(self.two, j)))


def are_comparable(one, two):
    """Have the judges as many registers and given things?"""
    return one.registers == two.registers and one.given == two.given


def line_table(one, two):
    """The least good table, ascending, or None if there is none."""
    if not are_comparable(one, two):
        return None
    comparison = Comparison(one, two)
    found = {(0, 0): True}
    waiting = [(0, 0)]
    while waiting:
        behind = comparison.pairs_behind(waiting.pop())
        if behind is None:
            return None
        for pair in behind:
            if pair not in found:
                found[pair] = True
                waiting.append(pair)
    return tuple(sorted(found))


def is_line_table(one, two, table):
    """Is it a good table, in any order?"""
    if not are_comparable(one, two) or not is_sequence(table):
        return False
    comparison = Comparison(one, two)
    if not all([comparison.is_pair(pair) for pair in table]):
        return False
    told = {(pair[0], pair[1]): True for pair in table}
    if (0, 0) not in told:
        return False
    for pair in told:
        behind = comparison.pairs_behind(pair)
        if behind is None or not all([other in told for other in behind]):
            return False
    return True
