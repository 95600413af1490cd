"""Lines of a judge that is being written.

Lines are named by labels, which may stand in an instruction before it is known where they are.
"""

from onceread.errors import TooLarge
from onceread.judges import MOST_LINES

JUMPS = ("claim", "step", "first", "same", "fact", "go")


def rows_of_registers(top, width, number):
    """So many rows of so many registers each, from the register top on."""
    return [tuple(range(top + width * at, top + width * (at + 1))) for at in range(number)]


class Code:
    """The instructions written so far, and the lines at which the labels stand."""

    def __init__(self, scratch):
        self.instructions = []
        self.places = []
        # A register for a thing that is needed only for a moment.
        self.scratch = scratch
        self.refuse = self.label()

    def label(self):
        """A new label, which stands nowhere so far."""
        self.places.append(None)
        return len(self.places) - 1

    def stand(self, label):
        """Let a label stand at the line that is written next."""
        self.places[label] = len(self.instructions)

    def write(self, *instruction):
        """Write the next line, with a label in the place of a line that it goes to."""
        if len(self.instructions) == MOST_LINES:
            raise TooLarge()
        self.instructions.append(instruction)

    def whole_lines(self):
        """All lines, with lines in the place of the labels."""
        lines = []
        for instruction in self.instructions:
            if instruction[0] in JUMPS:
                lines.append(instruction[:-1] + (self.places[instruction[-1]],))
            else:
                lines.append(instruction)
        return lines

    def zero_all(self, row):
        """Put 0 into all these registers."""
        for at in row:
            self.write("zero", at)

    def put_one(self, at):
        """Put 1 into a register."""
        self.write("zero", at)
        # Each world has a thing 1, so that this never goes to its line.
        self.write("step", at, self.refuse)

    def copy_all(self, row, source):
        """Put into each register what the one of the source holds."""
        for at, other in zip(row, source):
            self.write("copy", at, other)

    def read_all(self, row):
        """Read a letter into each of these registers."""
        for at in row:
            self.write("read", at)

    def go_if_same(self, one, two, goal):
        """Go to the goal if these two rows of registers hold the same things."""
        different = self.label()
        for at, other in zip(one[:-1], two[:-1]):
            further = self.label()
            self.write("same", at, other, further)
            self.write("go", different)
            self.stand(further)
        self.write("same", one[-1], two[-1], goal)
        self.stand(different)

    def go_if_zero(self, row, goal):
        """Go to the goal if all these registers hold 0."""
        different = self.label()
        for at in row[:-1]:
            further = self.label()
            self.write("first", at, further)
            self.write("go", different)
            self.stand(further)
        self.write("first", row[-1], goal)
        self.stand(different)

    def go_if_before(self, one, two, goal):
        """Go to the goal if the first register holds a lesser thing than the second one."""
        top, behind = self.label(), self.label()
        self.write("copy", self.scratch, one)
        self.stand(top)
        self.write("step", self.scratch, behind)
        self.write("same", self.scratch, two, goal)
        self.write("go", top)
        self.stand(behind)

    def refuse_unless_same(self, one, two):
        """Refuse if these two rows of registers hold different things."""
        further = self.label()
        self.go_if_same(one, two, further)
        self.write("go", self.refuse)
        self.stand(further)

    def go_to_next_row(self, row, goal):
        """Put the next row of things into these registers and go to the goal.

        Behind the last row, the registers hold 0 and the line below is next.
        """
        for at in reversed(row):
            carry = self.label()
            self.write("step", at, carry)
            self.write("go", goal)
            self.stand(carry)

    def count_one(self, row):
        """Add 1 to the number that these registers hold, digit by digit. Behind the last one is 0."""
        further = self.label()
        self.go_to_next_row(row, further)
        self.stand(further)
