"""Judges: small programs that read a paper once."""

from onceread.errors import BadJudge
from onceread.kinds import LARGEST_ARITY, is_between, is_name, is_sequence

# One sign for each member behind the word:
# r a register, l a line, n a name, s a sequence of registers.
FORMS = {
    "read": "r", "claim": "l", "zero": "r", "copy": "rr", "step": "rl", "first": "rl",
    "same": "rrl", "fact": "nsl", "go": "l", "take": "", "refuse": "",
}
LAST_WORDS = ("go", "take", "refuse")
MOST_REGISTERS = 400
MOST_LINES = 20000


def is_member(sign, member, registers, lines):
    """Is it as this sign tells, in a judge of so many registers and lines?"""
    if sign == "r":
        return is_between(member, 0, registers - 1)
    if sign == "l":
        return is_between(member, 0, lines - 1)
    if sign == "n":
        return is_name(member)
    if not is_sequence(member) or not 1 <= len(member) <= LARGEST_ARITY:
        return False
    return all([is_between(at, 0, registers - 1) for at in member])


def is_instruction(instruction, registers, lines):
    """Is it an instruction of a judge of so many registers and lines?"""
    if not is_sequence(instruction) or not instruction:
        return False
    word = instruction[0]
    if not isinstance(word, str) or word not in FORMS or len(instruction) != len(FORMS[word]) + 1:
        return False
    return all([is_member(sign, member, registers, lines)
                for sign, member in zip(FORMS[word], instruction[1:])])


def with_tuples(instruction):
    """The same instruction with tuples throughout."""
    return tuple([tuple(member) if is_sequence(member) else member for member in instruction])


def checked_lines(registers, lines):
    """The instructions of a judge with tuples throughout."""
    if not is_sequence(lines) or not 1 <= len(lines) <= MOST_LINES:
        raise BadJudge()
    if not all([is_instruction(instruction, registers, len(lines)) for instruction in lines]):
        raise BadJudge()
    if lines[-1][0] not in LAST_WORDS:
        raise BadJudge()
    return tuple([with_tuples(instruction) for instruction in lines])


def numbers_used(lines):
    """A dict that gives the number of registers for each name of a fact."""
    numbers = {}
    for instruction in lines:
        if instruction[0] == "fact":
            _, name, row, _ = instruction
            if numbers.setdefault(name, len(row)) != len(row):
                raise BadJudge()
    return numbers


class Judge:
    """A judge. It never changes."""

    def __init__(self, registers, lines, given=0):
        if not is_between(registers, 0, MOST_REGISTERS):
            raise BadJudge()
        self.registers = registers
        self.lines = checked_lines(registers, lines)
        if not is_between(given, 0, registers):
            raise BadJudge()
        self.given = given
        numbers = numbers_used(self.lines)
        self._uses = tuple([(name, numbers[name]) for name in sorted(numbers)])

    @property
    def uses(self):
        """The relations that are looked at with their numbers of registers, ascending."""
        return self._uses

    def __eq__(self, other):
        return (isinstance(other, Judge) and self.registers == other.registers
                and self.lines == other.lines and self.given == other.given)
