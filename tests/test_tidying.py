"""Point 53: tidied."""

import random
import unittest

from onceread.errors import TooLarge
from onceread.judges import Judge
from onceread.linetables import is_line_table, line_table
from onceread.running import looks, verdict
from onceread.tidying import tidied

import samples
from samples import check_error
from test_linetables import GOALS, some_few, stood_for

TAKE, REFUSE = ("take",), ("refuse",)
JUMPS = GOALS + ("go",)


def begun_at(judge, line):
    """The judge that begins at a line and is otherwise this judge."""
    lines = [row[:-1] + (row[-1] + 1,) if row[0] in JUMPS else row for row in judge.lines]
    return Judge(judge.registers, [("go", line + 1)] + lines, judge.given)


def classes_of(judge):
    """For each line the first line of its class."""
    begun = [begun_at(judge, line) for line in range(len(judge.lines))]
    found = []
    for line in range(len(begun)):
        found.append(next(other for other in range(line + 1) if line_table(begun[other], begun[line]) is not None))
    return found


def classes_by_rounds(judge):
    """The same, for longer judges: what differs is found by one instruction more in each round."""
    stood = [stood_for(judge, line) for line in range(len(judge.lines))]
    marks = [0] * len(stood)
    while True:
        told = []
        for line in stood:
            row = () if line is None else judge.lines[line]
            behind = [line + 1] if row and row[0] not in ("take", "refuse") else []
            behind += [row[-1]] if row and row[0] in GOALS else []
            told.append((row[:-1] if row and row[0] in GOALS else row, tuple(marks[other] for other in behind)))
        found = [told.index(one) for one in told]
        if found == marks:
            return found
        marks = found


def rewritten(judge, classes):
    """Point 53, as it tells how the lines are written."""
    places, new = {}, []
    chain = classes[0]
    while chain is not None:
        while chain not in places:
            places[chain] = len(new)
            line = stood_for(judge, chain)
            if line is None:
                new.append(("go", places[chain]))
                break
            new.append(judge.lines[line])
            if judge.lines[line][0] in ("take", "refuse"):
                break
            chain = classes[line + 1]
            if chain in places:
                new.append(("go", places[chain]))
        goals = [classes[row[-1]] for row in new if row[0] in GOALS]
        chain = next((goal for goal in goals if goal not in places), None)
    lines = [row[:-1] + (places[classes[row[-1]]],) if row[0] in GOALS else row for row in new]
    return Judge(judge.registers, lines, judge.given)


def some(chance):
    if chance.random() < 0.4:
        return some_few(chance, chance.randrange(1, 9))
    return samples.some_judge(chance, chance.choice((0, 1, 1, 2)), chance.randrange(1, 10))


class Tidied(unittest.TestCase):
    def check(self, lines, expected, registers=2):
        with self.subTest(lines=lines):
            judge = Judge(registers, lines, 1)
            found = tidied(judge)
            self.assertIsInstance(found, Judge)
            self.assertEqual(found.lines, tuple(expected))
            self.assertEqual((found.registers, found.given), (registers, 1))
            self.assertEqual(tidied(judge=found), found)
            self.assertEqual(rewritten(judge, classes_of(judge)), found)

    def test_small(self):
        self.check([TAKE], [TAKE])
        self.check([REFUSE], [REFUSE])
        self.check([("go", 1), TAKE], [TAKE])
        self.check([("go", 2), TAKE, ("go", 1)], [TAKE])
        self.check([("read", 0), ("go", 3), REFUSE, TAKE], [("read", 0), TAKE])
        # What is never come to is left out.
        self.check([TAKE, ("read", 0), ("claim", 0), REFUSE], [TAKE])

    def test_nothing(self):
        self.check([("go", 0)], [("go", 0)])
        self.check([("go", 1), ("go", 0)], [("go", 0)])
        self.check([("read", 0), ("go", 2), ("go", 1)], [("read", 0), ("go", 1)])
        self.check([("claim", 3), ("go", 1), REFUSE, ("go", 4), ("go", 3)], [("claim", 1), ("go", 1)])
        self.check([("claim", 2), TAKE, ("go", 2)], [("claim", 2), TAKE, ("go", 2)])
        self.check([("claim", 3), ("read", 0), ("go", 2), ("go", 2)], [("claim", 2), ("read", 0), ("go", 2)])
        # Placed already: a go to its place.
        self.check([("claim", 2), ("go", 1), ("read", 0), ("go", 1)],
                   [("claim", 2), ("go", 1), ("read", 0), ("go", 1)])

    def test_chains(self):
        # A chain goes on with what stands behind, until it meets what is placed.
        self.check([("claim", 3), ("read", 0), TAKE, ("read", 1), ("go", 2)],
                   [("claim", 3), ("read", 0), TAKE, ("read", 1), ("go", 2)])
        self.check([("claim", 4), ("go", 3), REFUSE, TAKE, ("read", 1), ("go", 3)],
                   [("claim", 2), TAKE, ("read", 1), ("go", 1)])
        # Back to the first line.
        self.check([("read", 0), ("go", 0)], [("read", 0), ("go", 0)])
        self.check([("read", 0), ("read", 1), ("go", 1)], [("read", 0), ("read", 1), ("go", 1)])
        # Goals in the order of the new lines, not of the old ones.
        self.check([("go", 3), ("zero", 0), REFUSE, ("first", 0, 6), ("first", 1, 1), TAKE, ("zero", 1), TAKE],
                   [("first", 0, 3), ("first", 1, 5), TAKE, ("zero", 1), ("go", 2), ("zero", 0), REFUSE])
        # A goal within a chain that is written later is placed there.
        self.check([("first", 0, 4), TAKE, REFUSE, REFUSE, ("first", 1, 6), REFUSE, ("zero", 0), ("go", 4)],
                   [("first", 0, 2), TAKE, ("first", 1, 4), REFUSE, ("zero", 0), ("go", 2)])

    def test_classes(self):
        self.check([("claim", 2), TAKE, TAKE], [("claim", 1), TAKE])
        self.check([("read", 0), ("read", 0), ("go", 0)], [("read", 0), ("go", 0)])
        self.check([("read", 0), ("read", 0), ("read", 0), ("go", 1)], [("read", 0), ("go", 0)])
        self.check([("claim", 3), ("read", 0), TAKE, ("read", 0), ("go", 2)], [("claim", 1), ("read", 0), TAKE])
        # The same words, but not the same goals, registers or names.
        self.check([("claim", 3), ("read", 0), TAKE, ("read", 1), TAKE],
                   [("claim", 3), ("read", 0), TAKE, ("read", 1), ("go", 2)])
        self.check([("fact", "edge", (0, 1), 3), ("fact", "edge", (1, 0), 3), TAKE, ("fact", "edges", (0, 1), 2), REFUSE],
                   [("fact", "edge", (0, 1), 3), ("fact", "edge", (1, 0), 3), TAKE, ("fact", "edges", (0, 1), 2), REFUSE])
        self.check([("claim", 2), ("claim", 4), ("claim", 4), TAKE, REFUSE],
                   [("claim", 2), ("claim", 4), ("claim", 4), TAKE, REFUSE])

    def test_random(self):
        chance = random.Random(53)
        shorter, longer = 0, 0
        for _ in range(400):
            judge = some(chance)
            found = tidied(judge)
            self.assertEqual(found, rewritten(judge, classes_of(judge)))
            self.assertEqual(tidied(found), found)
            table = line_table(judge, found)
            self.assertIsNotNone(table)
            self.assertTrue(is_line_table(judge, found, table))
            self.assertEqual(classes_by_rounds(judge), classes_of(judge))
            # Each class once, and so no two lines of it that are no go stand in one class.
            kept = [line for line in range(len(found.lines)) if found.lines[line][0] != "go"]
            told = classes_of(found)
            self.assertEqual(len({told[line] for line in kept}), len(kept))
            shorter += len(found.lines) < len(judge.lines)
            longer += len(found.lines) > len(judge.lines)
        self.assertGreater(shorter, 200)

    def test_longer_judges(self):
        chance = random.Random(56)
        for _ in range(400):
            lines = chance.randrange(10, 70)
            ends = [TAKE] * chance.randrange(1, 4)
            made = [chance.choice([("claim", chance.randrange(lines)), ("claim", chance.randrange(lines)),
                                   ("read", 0), ("go", chance.randrange(lines))] + ends) for _ in range(lines - 1)]
            judge = Judge(1, made + [TAKE])
            self.assertEqual(tidied(judge), rewritten(judge, classes_by_rounds(judge)))

    def test_chains_that_are_told_apart_late(self):
        # Rows of reads of several lengths, some of which end otherwise: each line is of another class, or all are.
        for lengths, ends in (((30, 30, 30), (TAKE, TAKE, REFUSE)), ((5, 40, 11), (TAKE, REFUSE, TAKE)),
                              ((20, 20, 20), (TAKE, TAKE, TAKE)), ((1, 2, 3), (REFUSE, TAKE, REFUSE))):
            lines, starts = [("claim", 0), ("claim", 0), REFUSE], []
            for length, end in zip(lengths, ends):
                starts.append(len(lines))
                lines += [("read", 0)] * length + [end]
            lines[0], lines[1] = ("claim", starts[0]), ("claim", starts[1])
            lines[2] = ("go", starts[2])
            judge = Judge(1, lines)
            self.assertEqual(tidied(judge), rewritten(judge, classes_by_rounds(judge)))

    def test_equal_if_line_alike(self):
        chance = random.Random(54)
        told = {True: 0, False: 0}
        for _ in range(400):
            lines = chance.randrange(1, 5)
            one, two = some_few(chance, lines), some_few(chance, chance.randrange(1, 5))
            alike = line_table(one, two) is not None
            told[alike] += 1
            self.assertIs(tidied(one) == tidied(two), alike)
        self.assertGreater(min(told.values()), 50)
        self.assertNotEqual(tidied(Judge(1, [TAKE])), tidied(Judge(2, [TAKE])))
        self.assertNotEqual(tidied(Judge(2, [TAKE], 1)), tidied(Judge(2, [TAKE], 2)))

    def test_same_verdicts_and_looks(self):
        chance = random.Random(55)
        for _ in range(150):
            judge = some(chance)
            found = tidied(judge)
            world = samples.some_world(chance, chance.choice((2, 3)))
            given = tuple(chance.randrange(world.size) for _ in range(judge.given))
            for letters in samples.all_letters(world.size, 4):
                self.assertEqual(verdict(found, world, letters, given), verdict(judge, world, letters, given))
                self.assertEqual(looks(found, world, letters, given), looks(judge, world, letters, given))


class Large(unittest.TestCase):
    def test_long_judges(self):
        judge = Judge(1, [("zero", 0)] * 19999 + [TAKE])
        self.assertEqual(tidied(judge), judge)
        judge = Judge(1, [("go", line + 1) for line in range(19999)] + [TAKE])
        self.assertEqual(tidied(judge).lines, (TAKE,))
        judge = Judge(1, [("claim", line + 1) for line in range(19999)] + [("go", 0)])
        self.assertEqual(tidied(judge).lines, (("claim", 0), ("go", 0)))

    def test_too_large(self):
        # The goals of a row of claims are the lines of a chain, the last one first: each gets a go.
        def judge(claims, more):
            lines = [("claim", 2 * claims + more - line) for line in range(claims)]
            return Judge(1, lines + [REFUSE] + [("zero", 0)] * (claims + more - 1) + [TAKE])

        small = judge(3, 0)
        self.assertEqual(tidied(small).lines, (("claim", 4), ("claim", 5), ("claim", 7), REFUSE, TAKE, ("zero", 0),
                                               ("go", 4), ("zero", 0), ("go", 5)))
        # Each claim, a refusal, the last line, and two lines for each further one: 3 times as many.
        self.assertEqual(len(tidied(judge(6666, 0)).lines), 19998)
        for claims in (6667, 6668, 9999):
            check_error(self, TooLarge, tidied, judge(claims, 0))
        self.assertEqual(len(judge(9999, 0).lines), 19999)

    def test_just_so_many(self):
        # The last chain begins in front of the one before it: a go is needed besides all lines.
        def judge(number):
            return Judge(2, [("claim", 4), ("claim", 3), TAKE, ("zero", 0), ("read", 1)] + [("zero", 1)] * number + [REFUSE])

        found = tidied(judge(19993))
        self.assertEqual(len(judge(19993).lines), 19999)
        self.assertEqual(len(found.lines), 20000)
        self.assertEqual(found.lines[-2:], (("zero", 0), ("go", 3)))
        self.assertEqual(tidied(found), found)
        self.assertEqual(len(judge(19994).lines), 20000)
        check_error(self, TooLarge, tidied, judge(19994))


if __name__ == "__main__":
    unittest.main()
