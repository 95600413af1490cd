"""Judges as texts."""

from onceread.errors import BadNote
from onceread.judges import LAST_WORDS, MOST_LINES, MOST_REGISTERS, Judge, is_instruction
from onceread.kinds import is_between, is_sequence
from onceread.notes import lines_of, number_told, spaced


def write_instruction(number, instruction):
    """The line of an instruction."""
    members = [number]
    for member in instruction:
        if is_sequence(member):
            members.extend(member)
        else:
            members.append(member)
    return spaced(members)


def write_judge(judge):
    """The text of a judge."""
    lines = [f"judge {judge.registers} given {judge.given} lines {len(judge.lines)}"]
    for number, instruction in enumerate(judge.lines):
        lines.append(write_instruction(number, instruction))
    return "\n".join(lines)


def read_numbers(line):
    """The numbers of registers, given ones and lines that the first line tells, or None."""
    words = line.split(" ")
    if len(words) != 6 or [words[0], words[2], words[4]] != ["judge", "given", "lines"]:
        return None
    registers, given, lines = [number_told(word) for word in (words[1], words[3], words[5])]
    if not is_between(registers, 0, MOST_REGISTERS) or not is_between(given, 0, registers):
        return None
    return (registers, given, lines) if is_between(lines, 1, MOST_LINES) else None


def read_instruction(line, number):
    """What a line tells if it has this number. It need not be an instruction. None if it has not."""
    words = line.split(" ")
    if len(words) < 2 or number_told(words[0]) != number:
        return None
    members = [number_told(word) for word in words[2:]]
    if words[1] == "fact" and len(members) > 2:
        return words[1], words[2], tuple(members[1:-1]), members[-1]
    return tuple([words[1]] + members)


class Draft:
    """A judge of which the lines are read one by one."""

    def __init__(self, registers, lines):
        self.registers = registers
        self.many = lines
        self.instructions = []
        self._numbers = {}

    def accepts_line(self, line):
        """Read the next line. False if it is bad."""
        number = len(self.instructions)
        if number == self.many:
            return False
        instruction = read_instruction(line, number)
        if not is_instruction(instruction, self.registers, self.many):
            return False
        if number == self.many - 1 and instruction[0] not in LAST_WORDS:
            return False
        self.instructions.append(instruction)
        if instruction[0] != "fact":
            return True
        _, name, row, _ = instruction
        return self._numbers.setdefault(name, len(row)) == len(row)


def read_judge(text):
    """The judge of a text."""
    lines = lines_of(text)
    numbers = read_numbers(lines[0])
    if numbers is None:
        raise BadNote(1)
    registers, given, many = numbers
    draft = Draft(registers, many)
    for at, line in enumerate(lines[1:], start=2):
        if not draft.accepts_line(line):
            raise BadNote(at)
    if len(draft.instructions) < many:
        raise BadNote(len(lines) + 1)
    return Judge(registers, draft.instructions, given)
