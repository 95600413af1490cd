"""Counter-judges: they take exactly the right counter-papers of a judge."""

from onceread.coding import Code
from onceread.digits import digits_needed
from onceread.errors import TooLarge
from onceread.judges import MOST_REGISTERS, Judge
from onceread.movelines import MoveLines, write_choice, write_next_standing
from onceread.roundlines import RoundLines


class CourseLines:
    """What the rounds of a counter-paper have of their own."""

    def __init__(self, code, judge, target, top):
        self._code = code
        self._judge = judge
        self._target = target
        self._many = digits_needed(len(judge.lines))
        self._moving = MoveLines(code, judge, top)

    def write_start(self, here):
        """Write lines that put the beginning into these registers."""
        code = self._code
        given = self._judge.given
        code.zero_all(here[:self._many])
        row = here[self._many:]
        code.copy_all(row[:given], tuple(range(given)))
        code.zero_all(row[given:])

    def write_next(self, row, goal):
        """Write lines that put the next standing into these registers and go to the goal."""
        write_next_standing(self._code, self._judge, row, goal)

    def write_bar(self, target):
        """Write lines that refuse if this standing is at a take."""
        code = self._code
        behind = code.label()
        goals = [code.refuse if instruction[0] == "take" else behind for instruction in self._judge.lines]
        write_choice(code, target[:self._many], goals)
        code.stand(behind)

    def write_move(self, here):
        """Write lines that let the standing make its move."""
        self._moving.write(here, self._target)

    def write_denial(self, place, target, here):
        """Write lines that refuse if a move leads from the place to the target."""
        code = self._code
        moving = self._moving
        again, second = code.label(), code.label()
        code.put_one(moving.tries)
        # Twice, since a claim may be 0 or 1.
        code.write("zero", moving.letter)
        code.stand(again)
        code.copy_all(here, place)
        code.write("go", moving.entry)
        code.stand(moving.tried)
        code.go_if_same(here, target, code.refuse)
        code.write("first", moving.letter, second)
        code.write("go", moving.ended)
        code.stand(second)
        code.put_one(moving.letter)
        code.write("go", again)
        code.stand(moving.ended)
        code.write("zero", moving.tries)


def counter_bill(judge):
    """The number of registers of which the counter-judge has no more."""
    return judge.given + 8 * (digits_needed(len(judge.lines)) + judge.registers) + 4


def counter(judge):
    """A judge that takes exactly the right counter-papers of this one."""
    registers = counter_bill(judge)
    if registers > MOST_REGISTERS:
        raise TooLarge()
    given = judge.given
    code = Code(given)
    rounds = RoundLines(code, digits_needed(len(judge.lines)) + judge.registers, given + 1)
    rounds.write(CourseLines(code, judge, rounds.target, rounds.top))
    code.write("take")
    code.stand(code.refuse)
    code.write("refuse")
    return Judge(registers, code.whole_lines(), given)
