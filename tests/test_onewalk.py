"""Point 50: one_walk."""

import itertools
import random
import unittest

from onceread.errors import BadValues, TooLarge
from onceread.judges import Judge
from onceread.meaning import holds
from onceread.onewalk import one_walk
from onceread.questions import Question
from onceread.reaching import can_take
from onceread.trees import trees_in
from onceread.worlds import World

import naive
import samples
from samples import CHAIN, PAIR, check_error

TAKE, REFUSE = ("take",), ("refuse",)
WAY = Judge(3, [("same", 0, 1, 5), ("read", 2), ("fact", "edge", (0, 2), 4), REFUSE, ("go", 6), TAKE, ("copy", 0, 2),
                ("go", 0)], 2)
EDGES = World(3, [("edge", 2, [(0, 1), (1, 2), (2, 2)]), ("mark", 1, [(1,)]), ("tri", 3, [(0, 1, 2)])])


def digits_for(judge):
    digits = 1
    while 2 ** digits < len(judge.lines):
        digits += 1
    return digits


def walk_of(question):
    """The walk in the question."""
    return question.tree[2][2][2][2]


def written(judge, standing):
    line, row = standing
    return (0,) + tuple(int(digit) for digit in format(line, "b").zfill(digits_for(judge))) + tuple(row)


def unwritten(judge, row):
    """The standing that the row of things is written for, or None."""
    digits = digits_for(judge)
    if row[0] != 0 or max(row[1:1 + digits]) > 1:
        return None
    line = int("".join(map(str, row[1:1 + digits])), 2)
    return (line, row[1 + digits:]) if line < len(judge.lines) else None


def steps_to(judge, world, row):
    """The tuples to which there has to be a step."""
    standing = unwritten(judge, row)
    if standing is None:
        return set()
    if judge.lines[standing[0]] == TAKE:
        return {(1,) + (0,) * (len(row) - 1)}
    return {written(judge, there) for _, there in naive.moves(judge, world, standing)}


class Tree(unittest.TestCase):
    def check(self, judge, variables):
        digits = digits_for(judge)
        width = 1 + digits + judge.registers
        question = one_walk(judge, variables)
        self.assertIsInstance(question, Question)
        tree = question.tree
        walk = walk_of(question)
        self.assertEqual(tree, ("some", "zero", ("some", "one", (
            "and", ("first", "zero"), ("and", ("next", "zero", "one"), walk)))))
        word, left, right, step, start, goal = walk
        self.assertEqual(word, "walk")
        self.assertEqual(left, tuple("a%d" % at for at in range(width)))
        self.assertEqual(right, tuple("b%d" % at for at in range(width)))
        rest = judge.registers - judge.given
        self.assertEqual(start, ("zero",) * (1 + digits) + tuple(variables) + ("zero",) * rest)
        self.assertEqual(goal, ("one",) + ("zero",) * (width - 1))
        step = Question(step)
        self.assertTrue(step.bare)
        self.assertLessEqual(set(step.free), set(left + right))
        self.assertLessEqual(set(step.uses), set(judge.uses))
        self.assertEqual(question.free, tuple(sorted(variables)))
        self.assertEqual(question.uses, step.uses)
        return question

    def test_digits(self):
        for lines, width in ((1, 2), (2, 2), (3, 3), (4, 3), (5, 4), (8, 4), (9, 5), (16, 5), (17, 6), (32, 6), (33, 7),
                             (64, 7)):
            judge = Judge(0, [("claim", 0)] * (lines - 1) + [REFUSE])
            self.assertEqual(len(walk_of(self.check(judge, ()))[1]), width)

    def test_variables(self):
        for variables in (("x", "y"), ["y", "x"], ("a0", "b0"), ("b5", "a1"), ("edge", "z9")):
            self.check(WAY, variables)
        self.check(Judge(3, [TAKE], 3), ("a2", "a0", "b1"))
        self.check(Judge(4, [REFUSE], 0), ())
        self.check(Judge(12, [REFUSE], 12), ["v%d" % at for at in range(12)])
        self.assertEqual(one_walk(judge=WAY, variables=("x", "y")), one_walk(WAY, ["x", "y"]))

    def test_random(self):
        chance = random.Random(50)
        for _ in range(60):
            judge = samples.some_judge(chance, chance.randrange(6), chance.randrange(1, 20))
            self.check(judge, ("x", "a1", "b0", "y", "zeros", "a0")[:judge.given])


class Step(unittest.TestCase):
    def check(self, judge, world, rows=None):
        walk = walk_of(one_walk(judge, ("u", "v", "w")[:judge.given]))
        names = walk[1] + walk[2]
        every = list(naive.rows(world.size, len(walk[1])))
        for row in rows or every:
            expected = steps_to(judge, world, row)
            found = {other for other in every if naive.holds(walk[3], world, dict(zip(names, row + other)))}
            self.assertEqual(found, expected, (judge.lines, row))

    def test_each_word(self):
        for line in (("read", 0), ("read", 1), ("claim", 2), ("claim", 0), ("claim", 1), ("zero", 0), ("copy", 0, 1),
                     ("copy", 1, 0), ("copy", 1, 1), ("step", 0, 2), ("step", 0, 1), ("step", 1, 0), ("first", 0, 2),
                     ("first", 1, 0), ("same", 0, 1, 2), ("same", 1, 1, 0), ("fact", "edge", (0, 1), 2),
                     ("fact", "edge", (1, 0), 0), ("fact", "mark", (1,), 2), ("fact", "tri", (0, 1, 1), 2),
                     ("fact", "tri", (0, 0, 1), 2), ("go", 0), ("go", 1), ("go", 2), TAKE, REFUSE):
            rows = [(0,) + digits + row for digits in naive.rows(2, 2) for row in naive.rows(3, 2)]
            self.check(Judge(2, [line, REFUSE, TAKE], 2), EDGES, rows)

    def test_all_tuples(self):
        # Written standings, and all else: other things in the first place, digits above 1, lines that are not there.
        for lines in ([TAKE], [REFUSE], [("go", 0)], [("claim", 1), TAKE], [("claim", 2), ("go", 0), TAKE],
                      [("go", 3), TAKE, REFUSE, ("go", 1)], [("claim", 4), ("claim", 3), TAKE, REFUSE, ("go", 1)]):
            self.check(Judge(0, lines), EDGES)
            self.check(Judge(0, lines), PAIR)
        self.check(Judge(1, [("read", 0), TAKE]), EDGES)
        self.check(Judge(1, [("step", 0, 2), ("first", 0, 0), TAKE], 1), EDGES)
        self.check(Judge(2, [("copy", 0, 1), TAKE], 1), PAIR)

    def test_random(self):
        chance = random.Random(51)
        for _ in range(25):
            world = samples.some_world(chance, 2)
            self.check(samples.some_judge(chance, chance.randrange(3), chance.randrange(1, 6)), world)

    def test_many_digits(self):
        chance = random.Random(52)
        judge = samples.some_judge(chance, 1, 40)
        walk = walk_of(one_walk(judge, ("u",)[:judge.given]))
        names = walk[1] + walk[2]
        rows = [tuple(chance.choice((0, 0, 1, 1, 2)) for _ in range(7)) + (chance.randrange(3),) for _ in range(40)]
        rows += [written(judge, (line, (chance.randrange(3),))) for line in range(40)]
        for row in rows:
            expected = steps_to(judge, CHAIN, row)
            for other in list(expected) + rows:
                told = naive.holds(walk[3], CHAIN, dict(zip(names, row + other)))
                self.assertIs(told, other in expected, (row, other))


class Holds(unittest.TestCase):
    def test_way(self):
        question = one_walk(WAY, ("x", "y"))
        for x, y in itertools.product(range(3), repeat=2):
            self.assertIs(holds(question, CHAIN, (("x", x), ("y", y))), x <= y)
        # The things of the variables, in the order in which they are handed in.
        question = one_walk(WAY, ("b1", "a1"))
        for x, y in itertools.product(range(3), repeat=2):
            self.assertIs(holds(question, CHAIN, (("a1", y), ("b1", x))), x <= y)

    def test_random(self):
        chance = random.Random(53)
        told = {True: 0, False: 0}
        for _ in range(150):
            world = samples.some_world(chance, chance.choice((2, 3)))
            judge = samples.some_judge(chance, chance.randrange(4), chance.randrange(1, 10))
            names = ("a1", "x", "b0", "y")[:judge.given]
            question = one_walk(judge, names)
            for _ in range(3):
                given = tuple(chance.randrange(world.size) for _ in names)
                expected = can_take(judge, world, given)
                told[expected] += 1
                self.assertIs(holds(question, world, tuple(zip(names, given))), expected)
        self.assertGreater(min(told.values()), 50)


class Large(unittest.TestCase):
    def test_lines(self):
        for lines in (63, 64):
            judge = Judge(2, [("claim", 0)] * (lines - 1) + [TAKE])
            self.assertTrue(holds(one_walk(judge, ()), PAIR))
        for lines in (65, 66, 20000):
            check_error(self, TooLarge, one_walk, Judge(2, [("claim", 0)] * (lines - 1) + [TAKE]), ())

    def test_width(self):
        for lines, registers in ((1, 58), (2, 58), (3, 57), (4, 57), (5, 56), (32, 54), (33, 53), (64, 53)):
            for given in (0, registers):
                names = ["v%d" % at for at in range(given)]
                for line in (("step", registers - 1, 0), ("read", 0), ("claim", 0),
                             ("fact", "tri", (0, 1, registers - 1), 0)):
                    judge = Judge(registers, [line] * (lines - 1) + [REFUSE], given)
                    question = one_walk(judge, names)
                    self.assertEqual(len(walk_of(question)[1]), 1 + digits_for(judge) + registers)
                    self.assertLessEqual(len(trees_in(question.tree)), 20000)
                more = Judge(registers + 1, [("claim", 0)] * (lines - 1) + [REFUSE], given)
                self.assertEqual(1 + digits_for(more) + more.registers, 61)
                check_error(self, TooLarge, one_walk, more, names)
        check_error(self, TooLarge, one_walk, Judge(400, [TAKE]), ())

    def test_bad_values(self):
        for judge in (WAY, Judge(400, [TAKE], 2), Judge(2, [("claim", 0)] * 64 + [TAKE], 2)):
            for wrong in ((), ("x",), ("x", "y", "z"), ("x", "x"), ("zero", "x"), ("x", "one"), ("zero", "one"),
                          ("x", "Y"), ("x", ""), ("x", "walk"), ("x", None), ("x", 1), ("x", ("y",)), None, 7, "xy", True):
                check_error(self, BadValues, one_walk, judge, wrong)
        for wrong in (("x",), None, "", 0):
            check_error(self, BadValues, one_walk, Judge(2, [TAKE]), wrong)


if __name__ == "__main__":
    unittest.main()
