"""Judges at work: one run, whose line and registers change in place."""

from onceread.standings import ENDS, carry_out, fact_looked_at, line_behind, may_read

WAITING = ("read", "claim")


class Machine:
    """A judge in a world, at a standing. It keeps the facts that it has looked at."""

    def __init__(self, judge, world, standing):
        line, row = standing
        self.line = line
        self.row = list(row)
        self.looked = {}
        self._lines = judge.lines
        self._world = world

    def at_word(self):
        """The word of the instruction that is next."""
        return self._lines[self.line][0]

    def is_waiting(self):
        """Is a letter needed for the next instruction?"""
        return self.at_word() in WAITING

    def stands_as(self, line, row):
        """Is this line next, and do the registers hold this list of things?"""
        return self.line == line and self.row == row

    def move(self, letter):
        """Carry out the next instruction; the letter is None where it reads nothing."""
        instruction = self._lines[self.line]
        jumped = carry_out(instruction, self.row, self._world, letter)
        if instruction[0] == "fact":
            self.looked[fact_looked_at(instruction, self.row)] = jumped
        self.line = line_behind(instruction, self.line, jumped)

    def accepts(self, letter):
        """May this be the next letter?"""
        return may_read(self._lines[self.line], letter, self._world.size)

    def run_on(self):
        """Go on as far as it goes without a letter.

        Returns 0, or, if a standing came again, the number of moves from it to itself. Each
        standing is compared with one that is kept, and after 1, 2, 4, 8 .. moves the one of
        that time is kept instead: so a circle is found without a list of all standings.
        """
        line, row = self.line, list(self.row)
        count, room = 0, 1
        while not self.is_waiting() and self.at_word() not in ENDS:
            self.move(None)
            count += 1
            if self.stands_as(line, row):
                return count
            if count == room:
                line, row = self.line, list(self.row)
                count, room = 0, 2 * room
        return 0


def first_again(judge, world, standing, circle):
    """A machine at the first standing that comes again, where so many moves lead to it again."""
    one = Machine(judge, world, standing)
    two = Machine(judge, world, standing)
    for _ in range(circle):
        two.move(None)
    while not one.stands_as(two.line, two.row):
        one.move(None)
        two.move(None)
    return one
