"""The shortest form of a judge that does the same, line for line."""

from onceread.classes import classes_of_lines
from onceread.comparing import WITH_GOALS, lines_stood_for
from onceread.errors import TooLarge
from onceread.judges import MOST_LINES, Judge
from onceread.standings import ENDS


class Tidying:
    """The new lines of a judge, written one after the other, chain by chain.

    As long as lines are still written, goals are named by lines of the old judge; only a `go`
    names a new line.
    """

    def __init__(self, judge):
        self._lines = judge.lines
        self._stood_for = lines_stood_for(judge)
        self._classes = classes_of_lines(judge)
        self._places = {}
        self.written = []

    def write_all(self):
        """Write all chains."""
        self._write_chain(0)
        at = 0
        while at < len(self.written):
            instruction = self.written[at]
            if instruction[0] in WITH_GOALS and self._classes[instruction[-1]] not in self._places:
                self._write_chain(instruction[-1])
            at += 1

    def new_lines(self):
        """The new lines, all of them with new lines as goals."""
        lines = []
        for instruction in self.written:
            if instruction[0] in WITH_GOALS:
                lines.append(instruction[:-1] + (self._places[self._classes[instruction[-1]]],))
            else:
                lines.append(instruction)
        return lines

    def _write(self, instruction):
        if len(self.written) == MOST_LINES:
            raise TooLarge()
        self.written.append(instruction)

    def _write_chain(self, line):
        here = line
        while self._classes[here] not in self._places:
            self._places[self._classes[here]] = len(self.written)
            # What stands for nothing is written as a line that goes to itself.
            if self._stood_for[here] is None:
                break
            here = self._stood_for[here]
            self._write(self._lines[here])
            if self._lines[here][0] in ENDS:
                return
            here += 1
        self._write(("go", self._places[self._classes[here]]))


def tidied(judge):
    """The judge that does the same with the fewest lines that are no go."""
    tidying = Tidying(judge)
    tidying.write_all()
    return Judge(judge.registers, tidying.new_lines(), judge.given)
