"""Judges of questions: they take exactly the right papers of one side.

In all functions here, `yes` tells the side of the tree that is read by the lines written,
`homes` gives the register that holds the thing of each variable, and the registers from `top`
on are free.
"""

from onceread.bills import bill
from onceread.coding import Code, rows_of_registers
from onceread.errors import TooLarge
from onceread.judges import MOST_REGISTERS, Judge
from onceread.nodes import bound_to
from onceread.roundlines import RoundLines
from onceread.trees import ATOMS


def write_side(code, tree, yes, homes, top):
    """Write lines that read a side of a tree: they go on below, or refuse."""
    word = tree[0]
    if word in ATOMS:
        write_atom(code, tree, yes, homes)
    elif word == "not":
        write_side(code, tree[1], not yes, homes, top)
    elif word == "and" or word == "or":
        write_joined(code, tree, yes, homes, top)
    elif word == "some" or word == "every":
        write_bound(code, tree, yes, homes, top)
    elif word == "more":
        write_compared(code, tree, yes, homes, top)
    elif yes:
        write_way(code, tree, homes, top)
    else:
        write_no_way(code, tree, homes, top)


def registers_of(names, homes):
    """The registers that hold the things of these variables."""
    return tuple([homes[name] for name in names])


def write_atom(code, tree, yes, homes):
    """Write lines that refuse unless an atom holds (yes), or does not hold (no)."""
    if not yes:
        write_jump(code, tree, homes, code.refuse)
        return
    further = code.label()
    write_jump(code, tree, homes, further)
    code.write("go", code.refuse)
    code.stand(further)


def write_jump(code, tree, homes, goal):
    """Write lines that go to the goal if an atom holds."""
    word = tree[0]
    if word == "rel":
        code.write("fact", tree[1], registers_of(tree[2], homes), goal)
        return
    one = homes[tree[1]]
    if word == "first":
        code.write("first", one, goal)
    elif word == "last":
        code.write("copy", code.scratch, one)
        code.write("step", code.scratch, goal)
    elif word == "same":
        code.write("same", one, homes[tree[2]], goal)
    elif word == "before":
        code.go_if_before(one, homes[tree[2]], goal)
    else:
        behind = code.label()
        code.write("copy", code.scratch, one)
        code.write("step", code.scratch, behind)
        code.write("same", code.scratch, homes[tree[2]], goal)
        code.stand(behind)


def write_joined(code, tree, yes, homes, top):
    """Write lines for an `and` or an `or`."""
    _, one, two = tree
    if (tree[0] == "and") == yes:
        write_side(code, one, yes, homes, top)
        write_side(code, two, yes, homes, top)
        return
    second, behind = code.label(), code.label()
    code.write("claim", second)
    write_side(code, one, yes, homes, top)
    code.write("go", behind)
    code.stand(second)
    write_side(code, two, yes, homes, top)
    code.stand(behind)


def write_bound(code, tree, yes, homes, top):
    """Write lines for a `some` or an `every`."""
    _, name, part = tree
    inner = bound_to((name,), (top,), homes)
    if (tree[0] == "some") == yes:
        code.write("read", top)
        write_side(code, part, yes, inner, top + 1)
        return
    again = code.label()
    code.write("zero", top)
    code.stand(again)
    write_side(code, part, yes, inner, top + 1)
    code.go_to_next_row((top,), again)


def write_compared(code, tree, yes, homes, top):
    """Write lines for a `more`: two counts, of two digits each, since a count may be the size."""
    _, one_name, one_part, two_name, two_part = tree
    one, two = (top + 1, top + 2), (top + 3, top + 4)
    code.zero_all(one + two)
    write_count(code, one_part, one, bound_to((one_name,), (top,), homes), top)
    write_count(code, two_part, two, bound_to((two_name,), (top,), homes), top)
    greater, even, behind = code.label(), code.label(), code.label()
    code.go_if_before(two[0], one[0], greater)
    code.write("same", one[0], two[0], even)
    code.write("go", code.refuse if yes else behind)
    code.stand(even)
    code.go_if_before(two[1], one[1], greater)
    code.write("go", code.refuse if yes else behind)
    code.stand(greater)
    if not yes:
        code.write("go", code.refuse)
    code.stand(behind)


def write_count(code, part, digits, inner, top):
    """Write lines that read a claim for each thing, and count those that are 1."""
    again, holds, further = code.label(), code.label(), code.label()
    code.write("zero", top)
    code.stand(again)
    code.write("claim", holds)
    write_side(code, part, False, inner, top + 5)
    code.write("go", further)
    code.stand(holds)
    write_side(code, part, True, inner, top + 5)
    code.count_one(digits)
    code.stand(further)
    code.go_to_next_row((top,), again)


def write_step(code, tree, yes, homes, here, after, top):
    """Write lines that read a side of the step of a walk, from a tuple to another one."""
    inner = bound_to(tree[1] + tree[2], here + after, homes)
    write_side(code, tree[3], yes, inner, top)


def write_way(code, tree, homes, top):
    """Write lines for the yes of a walk."""
    width = len(tree[1])
    here, after = rows_of_registers(top, width, 2)
    again, behind = code.label(), code.label()
    code.copy_all(here, registers_of(tree[4], homes))
    code.stand(again)
    code.go_if_same(here, registers_of(tree[5], homes), behind)
    code.read_all(after)
    write_step(code, tree, True, homes, here, after, top + 2 * width)
    code.copy_all(here, after)
    code.write("go", again)
    code.stand(behind)


def write_no_way(code, tree, homes, top):
    """Write lines for the no of a walk."""
    code.go_if_same(registers_of(tree[4], homes), registers_of(tree[5], homes), code.refuse)
    width = len(tree[1])
    rounds = RoundLines(code, width, top)
    rounds.write(WalkLines(code, tree, homes, rounds.top))


class WalkLines:
    """What the rounds of a walk have of their own."""

    def __init__(self, code, tree, homes, top):
        self._code = code
        self._tree = tree
        self._homes = homes
        self._after = rows_of_registers(top, len(tree[1]), 1)[0]
        self._top = top + len(tree[1])

    def write_start(self, here):
        """Write lines that put the start into these registers."""
        self._code.copy_all(here, registers_of(self._tree[4], self._homes))

    def write_next(self, row, goal):
        """Write lines that put the next tuple into these registers and go to the goal."""
        self._code.go_to_next_row(row, goal)

    def write_bar(self, target):
        """Write lines that refuse if this is the goal."""
        self._code.go_if_same(target, registers_of(self._tree[5], self._homes), self._code.refuse)

    def write_move(self, here):
        """Write lines that read a step."""
        self._code.read_all(self._after)
        write_step(self._code, self._tree, True, self._homes, here, self._after, self._top)
        self._code.copy_all(here, self._after)

    def write_denial(self, place, target, here):
        """Write lines that read that there is no step. The registers `here` need not be kept."""
        write_step(self._code, self._tree, False, self._homes, place, target, self._top)


def judge_of(question, side):
    """A judge that takes exactly the papers that are right for this side of the question."""
    registers = bill(question, side)
    if registers > MOST_REGISTERS:
        raise TooLarge()
    given = len(question.free)
    homes = {name: at for at, name in enumerate(question.free)}
    code = Code(given)
    write_side(code, question.tree, side == "yes", homes, given + 1)
    code.write("take")
    code.stand(code.refuse)
    code.write("refuse")
    return Judge(registers, code.whole_lines(), given)
