"""Lines of a judge that let a standing of another judge make its moves.

The standing is held in a row of registers: binary digits of its line, the highest one first, and
then what its registers hold.
"""

from onceread.digits import digits_needed, numbers_held
from onceread.standings import ENDS


def write_choice(code, digits, goals):
    """Write lines that go to the goal of the number that the digits hold.

    The goals are labels for the numbers from 0 on; greater numbers are never held.
    """
    if all([goal == goals[0] for goal in goals]):
        code.write("go", goals[0])
        return
    half = numbers_held(len(digits) - 1)
    if len(goals) <= half:
        write_choice(code, digits[1:], goals)
        return
    lower = code.label()
    code.write("first", digits[0], lower)
    write_choice(code, digits[1:], goals[half:])
    code.stand(lower)
    write_choice(code, digits[1:], goals[:half])


def write_numbers(code, digits, labels):
    """Write lines that put a number into the digits, for each number of which a label is given.

    They begin where this label stands, and all go on below.
    """
    wanted = labels
    for at in reversed(digits):
        halves = {}
        for number, label in wanted.items():
            half = number // 2
            if half not in halves:
                halves[half] = code.label()
            code.stand(label)
            if number == 2 * half:
                code.write("zero", at)
            else:
                code.put_one(at)
            code.write("go", halves[half])
        wanted = halves
    code.stand(wanted[0])


def write_next_standing(code, judge, row, goal):
    """Write lines that put the next standing into these registers and go to the goal.

    Behind the last standing they go on below.
    """
    many = digits_needed(len(judge.lines))
    digits = row[:many]
    found, behind = code.label(), code.label()
    code.go_to_next_row(row[many:], goal)
    for at in reversed(digits):
        is_zero, carry = code.label(), code.label()
        code.write("first", at, is_zero)
        code.write("zero", at)
        code.write("go", carry)
        code.stand(is_zero)
        code.put_one(at)
        code.write("go", found)
        code.stand(carry)
    code.write("go", behind)
    code.stand(found)
    goals = [goal for _ in judge.lines] + [behind]
    write_choice(code, digits, goals[:numbers_held(many)])
    code.stand(behind)


class MoveLines:
    """The lines that let one standing make its move.

    There are two kinds of moves. In a true move letters are read. In a tried move no letter is
    read: it is tried whether a move leads to a target, and the letter of a `read` is the one that
    would do so; the letter of a `claim` stands in a register. The register `tries` tells which
    kind it is: 0 for a true move.
    """

    def __init__(self, code, judge, top):
        self.code = code
        self.judge = judge
        self.tries = top
        self.letter = top + 1
        self.many = digits_needed(len(judge.lines))
        self.entry = code.label()
        # Behind a tried move, and where there is no move that could be tried.
        self.tried = code.label()
        self.ended = code.label()
        self.goes_to = {}

    def write(self, here, target):
        """Write all lines. Behind a true move they go on below; at an end they refuse."""
        code = self.code
        lines = self.judge.lines
        at_end = code.label()
        code.stand(self.entry)
        starts = [at_end if instruction[0] in ENDS else code.label() for instruction in lines]
        write_choice(code, here[:self.many], starts)
        for line, instruction in enumerate(lines):
            if instruction[0] not in ENDS:
                code.stand(starts[line])
                self._write_move(line, here[self.many:], target[self.many:])
        code.stand(at_end)
        code.write("first", self.tries, code.refuse)
        code.write("go", self.ended)
        self._write_arrival(here)

    def _write_arrival(self, here):
        code = self.code
        behind = code.label()
        if self.goes_to:
            write_numbers(code, here[:self.many], self.goes_to)
        code.write("first", self.tries, behind)
        code.write("go", self.tried)
        code.stand(behind)

    def _to(self, line):
        # The label of the lines that put this line into the digits.
        if line not in self.goes_to:
            self.goes_to[line] = self.code.label()
        return self.goes_to[line]

    def _write_move(self, line, row, wanted):
        instruction = self.judge.lines[line]
        word = instruction[0]
        if word == "go":
            self.code.write("go", self._to(instruction[1]))
            return
        if word == "read":
            self._write_read(row[instruction[1]], wanted[instruction[1]])
        elif word == "claim":
            self._write_claim(self._to(instruction[1]), self._to(line + 1))
        else:
            self._write_letterless(instruction, row)
        self.code.write("go", self._to(line + 1))

    def _write_read(self, at, wanted):
        code = self.code
        is_true, behind = code.label(), code.label()
        code.write("first", self.tries, is_true)
        code.write("copy", at, wanted)
        code.write("go", behind)
        code.stand(is_true)
        code.write("read", at)
        code.stand(behind)

    def _write_claim(self, goal, below):
        code = self.code
        is_true = code.label()
        code.write("first", self.tries, is_true)
        code.write("first", self.letter, below)
        code.write("go", goal)
        code.stand(is_true)
        code.write("claim", goal)

    def _write_letterless(self, instruction, row):
        code = self.code
        word = instruction[0]
        if word == "zero":
            code.write("zero", row[instruction[1]])
        elif word == "copy":
            code.write("copy", row[instruction[1]], row[instruction[2]])
        elif word == "same":
            code.write("same", row[instruction[1]], row[instruction[2]], self._to(instruction[3]))
        elif word == "fact":
            _, name, looked, goal = instruction
            code.write("fact", name, tuple([row[at] for at in looked]), self._to(goal))
        else:
            code.write(word, row[instruction[1]], self._to(instruction[2]))
