"""Runs of a judge on a whole paper."""

from onceread.machines import Machine
from onceread.standings import beginning


def read_to_end(machine, letters):
    """Let the machine read the letters. Returns its verdict."""
    at = 0
    while True:
        if machine.run_on() > 0:
            return "endless"
        if not machine.is_waiting():
            taken = machine.at_word() == "take" and at == len(letters)
            return "taken" if taken else "refused"
        if at == len(letters) or not machine.accepts(letters[at]):
            return "refused"
        machine.move(letters[at])
        at += 1


def verdict(judge, world, letters, given=()):
    """The word that tells whether the judge takes the paper."""
    machine = Machine(judge, world, beginning(judge, world, given))
    return read_to_end(machine, letters)


def looks(judge, world, letters, given=()):
    """The facts that the judge looks at while it reads the paper, and whether each stands."""
    machine = Machine(judge, world, beginning(judge, world, given))
    read_to_end(machine, letters)
    return tuple(sorted([(name, row, stands) for (name, row), stands in machine.looked.items()]))


def agrees(world, looked):
    """Does each fact stand in the world exactly if it is told to stand?"""
    return all([((name, row) in world) == stands for name, row, stands in looked])
