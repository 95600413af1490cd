"""A judge as a question: one walk through its standings, written as tuples of things."""

from onceread.digits import digits_needed, digits_of, numbers_held
from onceread.errors import BadValues, TooLarge
from onceread.kinds import are_different_names
from onceread.questions import Question
from onceread.trees import WIDEST_WALK

MOST_LINES_WALKED = 64
SET_APART = ("zero", "one")
CHANGING = ("read", "zero", "copy", "step")


def joined(word, trees):
    """All these trees joined by `and` or `or`, nested as little as can be."""
    if len(trees) == 1:
        return trees[0]
    half = len(trees) // 2
    return word, joined(word, trees[:half]), joined(word, trees[half:])


class Step:
    """The step from a tuple to another one, for a judge.

    The first thing of a written standing is 0. With its help the digits 1 are told: there is a 1
    behind a 0.
    """

    def __init__(self, judge):
        self.judge = judge
        self.digits = digits_needed(len(judge.lines))
        self.width = 1 + self.digits + judge.registers
        self.left = tuple(["a" + str(at) for at in range(self.width)])
        self.right = tuple(["b" + str(at) for at in range(self.width)])
        self._registers = self.left[1 + self.digits:]
        self._registers_behind = self.right[1 + self.digits:]

    def whole_tree(self):
        """The whole tree."""
        return ("and", ("first", self.left[0]), self._from_lines(0, len(self.judge.lines), 0))

    def _from_lines(self, line, behind, known):
        # From the lines from one on and before another one, when so many digits are known.
        if known == self.digits:
            return self._from_line(line)
        name = self.left[1 + known]
        upper = min(line + numbers_held(self.digits - known - 1), behind)
        lower = ("and", ("first", name), self._from_lines(line, upper, known + 1))
        if upper == behind:
            return lower
        return ("or", lower, ("and", self._one(name), self._from_lines(upper, behind, known + 1)))

    def _one(self, name):
        return "next", self.left[0], name

    def _from_line(self, line):
        instruction = self.judge.lines[line]
        word = instruction[0]
        if word == "refuse":
            # Nothing is behind itself: there is no step.
            return "next", self.left[0], self.left[0]
        if word == "take":
            return self._begins_with([1] + [0] * (self.width - 1))
        changed = instruction[1] if word in CHANGING else None
        trees = [self._move(instruction, line)]
        for at in range(self.judge.registers):
            if at != changed:
                trees.append(("same", self._registers[at], self._registers_behind[at]))
        return joined("and", trees)

    def _begins_with(self, things):
        # The right tuple begins with these things, all of them 0 or 1.
        trees = []
        for name, thing in zip(self.right, things):
            trees.append(("first", name) if thing == 0 else self._one(name))
        return joined("and", trees)

    def _at_line(self, line):
        return self._begins_with((0,) + digits_of(line, self.digits))

    def _move(self, instruction, line):
        # To which line the move leads, and what it puts into a register.
        word = instruction[0]
        if word == "go":
            return self._at_line(instruction[1])
        below = self._at_line(line + 1)
        if word == "read":
            return below
        if word == "claim":
            return "or", self._at_line(instruction[1]), below
        if word in CHANGING:
            return self._changing(instruction, below)
        goal = ("and", self._test(instruction), self._at_line(instruction[-1]))
        return "or", goal, ("and", ("not", self._test(instruction)), below)

    def _changing(self, instruction, below):
        name, behind = self._registers[instruction[1]], self._registers_behind[instruction[1]]
        if instruction[0] == "zero":
            return "and", ("first", behind), below
        if instruction[0] == "copy":
            return "and", ("same", self._registers[instruction[2]], behind), below
        over = joined("and", [("last", name), ("first", behind), self._at_line(instruction[2])])
        return "or", over, ("and", ("next", name, behind), below)

    def _test(self, instruction):
        if instruction[0] == "first":
            return "first", self._registers[instruction[1]]
        if instruction[0] == "same":
            return "same", self._registers[instruction[1]], self._registers[instruction[2]]
        return "rel", instruction[1], tuple([self._registers[at] for at in instruction[2]])


def check_names(judge, variables):
    """Raise BadValues unless these are the names for the things that the judge is given."""
    if not are_different_names(variables, judge.given) or len(variables) != judge.given:
        raise BadValues()
    if any([name in SET_APART for name in variables]):
        raise BadValues()


def one_walk(judge, variables):
    """The question that holds if the judge, given the things of the variables, takes some paper."""
    check_names(judge, variables)
    step = Step(judge)
    if len(judge.lines) > MOST_LINES_WALKED or step.width > WIDEST_WALK:
        raise TooLarge()
    start = ("zero",) * (1 + step.digits) + tuple(variables) + ("zero",) * (judge.registers - judge.given)
    goal = ("one",) + ("zero",) * (step.width - 1)
    tree = ("walk", step.left, step.right, step.whole_tree(), start, goal)
    tree = ("and", ("first", "zero"), ("and", ("next", "zero", "one"), tree))
    return Question(("some", "zero", ("some", "one", tree)))
