"""Lines of judges, as they are compared."""

from onceread.standings import ENDS

WITH_GOALS = ("claim", "step", "first", "same", "fact")


def lines_stood_for(judge):
    """For each line of a judge the line that it stands for, or None if that is nothing."""
    known = {}
    for line in range(len(judge.lines)):
        passed = {}
        here = line
        while here not in known and here not in passed and judge.lines[here][0] == "go":
            passed[here] = True
            here = judge.lines[here][1]
        # Lines that go to one another in a circle come back to one that was passed.
        found = None if here in passed else known.get(here, here)
        known[line] = found
        for one in passed:
            known[one] = found
    return [known[line] for line in range(len(judge.lines))]


def core_of(instruction):
    """An instruction that is no go, without its goal."""
    return instruction[:-1] if instruction[0] in WITH_GOALS else instruction


def lines_behind(judge, line):
    """The line behind one that is no go, and its goal: as far as there are such lines."""
    instruction = judge.lines[line]
    if instruction[0] in ENDS:
        return []
    if instruction[0] in WITH_GOALS:
        return [line + 1, instruction[-1]]
    return [line + 1]
