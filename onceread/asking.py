"""Judges of questions: they take exactly the right papers of one side.

In all functions here, `yes` tells the side of the tree that is read by the lines written,
`homes` gives the register that holds the thing of each variable, and the registers from `top`
on are free.
"""

from onceread.bills import bill
from onceread.coding import Code
from onceread.errors import TooLarge
from onceread.judges import MOST_REGISTERS, Judge
from onceread.nodes import bound_to
from onceread.trees import ATOMS


def write_side(code, tree, yes, homes, top):
    """Write lines that read a side of a tree: they go on below, or refuse."""
    word = tree[0]
    if word in ATOMS:
        write_atom(code, tree, yes, homes)
    elif word == "not":
        write_side(code, tree[1], not yes, homes, top)
    elif word == "and" or word == "or":
        write_joined(code, tree, yes, homes, top)
    elif word == "some" or word == "every":
        write_bound(code, tree, yes, homes, top)
    elif word == "more":
        write_compared(code, tree, yes, homes, top)
    elif yes:
        write_way(code, tree, homes, top)
    else:
        write_no_way(code, tree, homes, top)


def registers_of(names, homes):
    """The registers that hold the things of these variables."""
    return tuple([homes[name] for name in names])


def write_atom(code, tree, yes, homes):
    """Write lines that refuse unless an atom holds (yes), or does not hold (no)."""
    if not yes:
        write_jump(code, tree, homes, code.refuse)
        return
    further = code.label()
    write_jump(code, tree, homes, further)
    code.write("go", code.refuse)
    code.stand(further)


def write_jump(code, tree, homes, goal):
    """Write lines that go to the goal if an atom holds."""
    word = tree[0]
    if word == "rel":
        code.write("fact", tree[1], registers_of(tree[2], homes), goal)
        return
    one = homes[tree[1]]
    if word == "first":
        code.write("first", one, goal)
    elif word == "last":
        code.write("copy", code.scratch, one)
        code.write("step", code.scratch, goal)
    elif word == "same":
        code.write("same", one, homes[tree[2]], goal)
    elif word == "before":
        code.go_if_before(one, homes[tree[2]], goal)
    else:
        behind = code.label()
        code.write("copy", code.scratch, one)
        code.write("step", code.scratch, behind)
        code.write("same", code.scratch, homes[tree[2]], goal)
        code.stand(behind)


def write_joined(code, tree, yes, homes, top):
    """Write lines for an `and` or an `or`."""
    _, one, two = tree
    if (tree[0] == "and") == yes:
        write_side(code, one, yes, homes, top)
        write_side(code, two, yes, homes, top)
        return
    second, behind = code.label(), code.label()
    code.write("claim", second)
    write_side(code, one, yes, homes, top)
    code.write("go", behind)
    code.stand(second)
    write_side(code, two, yes, homes, top)
    code.stand(behind)


def write_bound(code, tree, yes, homes, top):
    """Write lines for a `some` or an `every`."""
    _, name, part = tree
    inner = bound_to((name,), (top,), homes)
    if (tree[0] == "some") == yes:
        code.write("read", top)
        write_side(code, part, yes, inner, top + 1)
        return
    again = code.label()
    code.write("zero", top)
    code.stand(again)
    write_side(code, part, yes, inner, top + 1)
    code.go_to_next_row((top,), again)


def write_compared(code, tree, yes, homes, top):
    """Write lines for a `more`: two counts, of two digits each, since a count may be the size."""
    _, one_name, one_part, two_name, two_part = tree
    one, two = (top + 1, top + 2), (top + 3, top + 4)
    code.zero_all(one + two)
    write_count(code, one_part, one, bound_to((one_name,), (top,), homes), top)
    write_count(code, two_part, two, bound_to((two_name,), (top,), homes), top)
    greater, even, behind = code.label(), code.label(), code.label()
    code.go_if_before(two[0], one[0], greater)
    code.write("same", one[0], two[0], even)
    code.write("go", code.refuse if yes else behind)
    code.stand(even)
    code.go_if_before(two[1], one[1], greater)
    code.write("go", code.refuse if yes else behind)
    code.stand(greater)
    if not yes:
        code.write("go", code.refuse)
    code.stand(behind)


def write_count(code, part, digits, inner, top):
    """Write lines that read a claim for each thing, and count those that are 1."""
    again, holds, further = code.label(), code.label(), code.label()
    code.write("zero", top)
    code.stand(again)
    code.write("claim", holds)
    write_side(code, part, False, inner, top + 5)
    code.write("go", further)
    code.stand(holds)
    write_side(code, part, True, inner, top + 5)
    code.count_one(digits)
    code.stand(further)
    code.go_to_next_row((top,), again)


def rows_of_registers(top, width, number):
    """So many rows of so many registers each, from the register top on."""
    return [tuple(range(top + width * at, top + width * (at + 1))) for at in range(number)]


def write_step(code, tree, yes, homes, here, after, top):
    """Write lines that read a side of the step of a walk, from a tuple to another one."""
    inner = bound_to(tree[1] + tree[2], here + after, homes)
    write_side(code, tree[3], yes, inner, top)


def write_way(code, tree, homes, top):
    """Write lines for the yes of a walk."""
    width = len(tree[1])
    here, after = rows_of_registers(top, width, 2)
    again, behind = code.label(), code.label()
    code.copy_all(here, registers_of(tree[4], homes))
    code.stand(again)
    code.go_if_same(here, registers_of(tree[5], homes), behind)
    code.read_all(after)
    write_step(code, tree, True, homes, here, after, top + 2 * width)
    code.copy_all(here, after)
    code.write("go", again)
    code.stand(behind)


def write_no_way(code, tree, homes, top):
    """Write lines for the no of a walk.

    The goal is never claimed, so that all counts stay below the number of tuples, and each of
    them is held as a tuple, digit by digit.
    """
    width = len(tree[1])
    round_number, count, claimed, target = rows_of_registers(top, width, 4)
    start, goal = registers_of(tree[4], homes), registers_of(tree[5], homes)
    again, each, is_claimed, further, behind = [code.label() for _ in range(5)]
    ways = Ways(code, tree, homes, target, round_number, top + 4 * width)
    code.go_if_same(start, goal, code.refuse)
    code.zero_all(round_number + count)
    code.count_one(count)
    code.stand(again)
    code.zero_all(claimed + target)
    code.stand(each)
    code.write("claim", is_claimed)
    ways.write_denial(count, further)
    code.stand(is_claimed)
    code.go_if_same(target, goal, code.refuse)
    ways.write_way_to_target()
    code.count_one(claimed)
    code.stand(further)
    code.go_to_next_row(target, each)
    code.go_if_same(claimed, count, behind)
    code.copy_all(count, claimed)
    code.count_one(round_number)
    code.write("go", again)
    ways.write_ways()
    code.stand(behind)


class Ways:
    """The lines of the no of a walk that read ways, and all that is done with a way to a tuple.

    A way to the target and a way to a shown tuple are read by the same lines, so that the step
    stands there once. A register tells which of them is read: 0 for a shown tuple.
    """

    def __init__(self, code, tree, homes, target, most, top):
        self.code = code
        self.tree = tree
        self.homes = homes
        self.target = target
        self.most = most
        width = len(tree[1])
        self.other, self.shown, self.here, self.after, self.done = rows_of_registers(top, width, 5)
        self.flag = top + 5 * width
        self.top = self.flag + 1
        self.entry = code.label()
        self.to_target = code.label()
        self.to_other = code.label()

    def write_way_to_target(self):
        """Write lines that read a way to the target with at most one step more than most."""
        code = self.code
        code.write("zero", self.flag)
        code.write("step", self.flag, code.refuse)
        code.write("go", self.entry)
        code.stand(self.to_target)

    def write_denial(self, count, behind):
        """Write lines that read, for a target that is not claimed, the claims for all tuples."""
        code = self.code
        each, is_shown, further = code.label(), code.label(), code.label()
        code.zero_all(self.shown + self.other)
        code.stand(each)
        code.write("claim", is_shown)
        code.write("go", further)
        code.stand(is_shown)
        code.write("zero", self.flag)
        code.write("go", self.entry)
        code.stand(self.to_other)
        code.go_if_same(self.other, self.target, code.refuse)
        write_step(code, self.tree, False, self.homes, self.other, self.target, self.top)
        code.count_one(self.shown)
        code.stand(further)
        code.go_to_next_row(self.other, each)
        code.refuse_unless_same(self.shown, count)
        code.write("go", behind)

    def write_ways(self):
        """Write the lines that read a way, at first from the start."""
        code = self.code
        again, is_other, further, last = [code.label() for _ in range(4)]
        code.stand(self.entry)
        code.copy_all(self.here, registers_of(self.tree[4], self.homes))
        code.zero_all(self.done)
        code.stand(again)
        code.write("first", self.flag, is_other)
        code.go_if_same(self.here, self.target, self.to_target)
        code.write("go", further)
        code.stand(is_other)
        code.go_if_same(self.here, self.other, self.to_other)
        code.go_if_same(self.done, self.most, code.refuse)
        code.stand(further)
        code.read_all(self.after)
        write_step(code, self.tree, True, self.homes, self.here, self.after, self.top)
        code.copy_all(self.here, self.after)
        code.go_if_same(self.done, self.most, last)
        code.count_one(self.done)
        code.write("go", again)
        # Only a way to the target comes here: its one step more is made, and no other may follow.
        code.stand(last)
        code.go_if_same(self.here, self.target, self.to_target)
        code.write("go", code.refuse)


def judge_of(question, side):
    """A judge that takes exactly the papers that are right for this side of the question."""
    registers = bill(question, side)
    if registers > MOST_REGISTERS:
        raise TooLarge()
    given = len(question.free)
    homes = {name: at for at, name in enumerate(question.free)}
    code = Code(given)
    write_side(code, question.tree, side == "yes", homes, given + 1)
    code.write("take")
    code.stand(code.refuse)
    code.write("refuse")
    return Judge(registers, code.whole_lines(), given)
