"""Which trees of a question hold in a world.

`things` is a dict that gives the things for variables. A variable may still be missing in it:
then a tree is True or False if that can be seen without it, and otherwise None. So many rows
are left out early where rows are searched for which a tree holds.
"""

from onceread.nodes import node_of, things_for
from onceread.trees import BINDERS


class Spread:
    """The tuples that are reached from a start, found only as far as they are asked for."""

    def __init__(self, start):
        self.found = {start: True}
        self.queue = [start]
        self.done = 0


class Truth:
    """The trees of one question in one world. It remembers what it has worked out."""

    def __init__(self, question, world):
        self.size = world.size
        self.root = node_of(question.tree, [])
        self._tables = {name: {row: True for row in world.rows(name)} for name, _ in question.uses}
        self._told = {}
        self._spreads = {}
        self._steps = {}

    def value(self, node, things):
        """True or False, or None if a variable is missing without which it is not seen."""
        word = node.word
        if word == "and" or word == "or":
            return self._joined(node, things)
        if word == "not":
            one = self.value(node.parts[0], things)
            return None if one is None else not one
        if word not in BINDERS:
            return self._atom(node, things)
        row = things_for(node.needs, things)
        if row is None:
            return None
        key = (node.number, row)
        if key not in self._told:
            self._told[key] = self._bound(node, dict(zip(node.needs, row)))
        return self._told[key]

    def _joined(self, node, things):
        # One part that has this value decides alone.
        strong = node.word == "or"
        one = self.value(node.parts[0], things)
        if one == strong:
            return strong
        two = self.value(node.parts[1], things)
        if two == strong:
            return strong
        return None if one is None or two is None else not strong

    def _atom(self, node, things):
        row = things_for(node.names, things)
        if row is None:
            return None
        word = node.word
        if word == "rel":
            return row in self._tables[node.tree[1]]
        if word == "same":
            return row[0] == row[1]
        if word == "before":
            return row[0] < row[1]
        if word == "next":
            return row[0] + 1 == row[1]
        return row[0] == (0 if word == "first" else self.size - 1)

    def _bound(self, node, things):
        word = node.word
        if word == "walk":
            return self._reaches(node, things)
        v = node.tree[1]
        if word == "more":
            w = node.tree[3]
            return self.count(node.parts[0], things, v) > self.count(node.parts[1], things, w)
        wanted = word == "some"
        for thing in range(self.size):
            things[v] = thing
            if self.value(node.parts[0], things) == wanted:
                return wanted
        return not wanted

    def _reaches(self, node, things):
        start = things_for(node.tree[4], things)
        goal = things_for(node.tree[5], things)
        key = (node.number, things_for(node.around, things), start)
        if key not in self._spreads:
            self._spreads[key] = Spread(start)
        spread = self._spreads[key]
        while goal not in spread.found and spread.done < len(spread.queue):
            here = spread.queue[spread.done]
            spread.done += 1
            for after in self.steps(node, things, here):
                if after not in spread.found:
                    spread.found[after] = True
                    spread.queue.append(after)
        return goal in spread.found

    def steps(self, node, things, here):
        """All tuples, ascending, to which a walk makes a step from the tuple here."""
        around = things_for(node.around, things)
        key = (node.number, around, here)
        if key not in self._steps:
            inner = dict(zip(node.around + node.tree[1], around + here))
            self._steps[key] = self.rows_that_hold(node.parts[0], inner, node.tree[2])
        return self._steps[key]

    def count(self, node, things, variable):
        """For how many things a tree holds if the variable stands for them."""
        return len(self.rows_that_hold(node, things, (variable,)))

    def rows_that_hold(self, node, things, names):
        """All rows, ascending, for which a tree holds if the names stand for their things."""
        tried = {name: thing for name, thing in things.items() if name not in names}
        if not names:
            return [()] if self.value(node, tried) else []
        found = []
        row = [-1]
        while row:
            row[-1] += 1
            name = names[len(row) - 1]
            if row[-1] == self.size:
                row.pop()
                del tried[name]
                continue
            tried[name] = row[-1]
            told = self.value(node, tried)
            if told is not False and len(row) < len(names):
                row.append(-1)
            elif told:
                found.append(tuple(row))
        return found
