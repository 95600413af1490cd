"""Points 51 and 52: line_table and is_line_table."""

import itertools
import random
import unittest

from onceread.judges import Judge
from onceread.linetables import is_line_table, line_table
from onceread.running import verdict

import samples
from samples import CHAIN

TAKE, REFUSE = ("take",), ("refuse",)
GOALS = ("claim", "step", "first", "same", "fact")


def stood_for(judge, line):
    passed = []
    while judge.lines[line][0] == "go":
        if line in passed:
            return None
        passed.append(line)
        line = judge.lines[line][1]
    return line


def is_good(one, two, table):
    """Point 51, word for word. The table is a set of pairs of lines."""
    if (0, 0) not in table:
        return False
    for l, m in table:
        i, j = stood_for(one, l), stood_for(two, m)
        if (i is None) != (j is None):
            return False
        if i is None:
            continue
        first, second = one.lines[i], two.lines[j]
        has_goal = first[0] in GOALS
        if first[0] != second[0] or first[:-1 if has_goal else None] != second[:-1 if has_goal else None]:
            return False
        if first[0] not in ("take", "refuse") and (i + 1, j + 1) not in table:
            return False
        if has_goal and (first[-1], second[-1]) not in table:
            return False
    return True


def good_tables(one, two):
    """All good tables, as sets."""
    pairs = list(itertools.product(range(len(one.lines)), range(len(two.lines))))
    lots = itertools.chain.from_iterable(itertools.combinations(pairs, number) for number in range(len(pairs) + 1))
    return [set(lot) for lot in lots if is_good(one, two, set(lot))]


def some_few(chance, lines):
    """A judge with few words, so that others are often like it."""
    made = [chance.choice((("claim", chance.randrange(lines)), ("go", chance.randrange(lines)), TAKE))
            for _ in range(lines - 1)]
    return Judge(0, made + [chance.choice((("go", chance.randrange(lines)), TAKE))])


class Tables(unittest.TestCase):
    def check(self, one, two, expected):
        with self.subTest(one=one.lines, two=two.lines):
            found = line_table(one, two)
            self.assertEqual(found, expected)
            if expected is not None:
                self.assertIsInstance(found, tuple)
                self.assertTrue(all(isinstance(pair, tuple) for pair in found))
                self.assertIs(is_line_table(one, two, found), True)
                turned = tuple(sorted((m, l) for l, m in expected))
                self.assertEqual(line_table(two, one), turned)
            else:
                self.assertIsNone(line_table(two, one))

    def test_small(self):
        self.check(Judge(0, [TAKE]), Judge(0, [TAKE]), ((0, 0),))
        self.check(Judge(0, [TAKE]), Judge(0, [REFUSE]), None)
        self.check(Judge(0, [TAKE]), Judge(0, [("go", 1), TAKE]), ((0, 0),))
        self.check(Judge(1, [("read", 0), TAKE]), Judge(1, [("go", 1), ("read", 0), ("go", 3), TAKE]), ((0, 0), (1, 2)))
        self.check(Judge(0, [("claim", 1), TAKE]), Judge(0, [("claim", 2), TAKE, TAKE]), ((0, 0), (1, 1), (1, 2)))
        # The pair behind is named as it is, also where a go stands.
        self.check(Judge(0, [("claim", 2), ("go", 2), TAKE]), Judge(0, [("claim", 1), TAKE]), ((0, 0), (1, 1), (2, 1)))
        # A loop once and twice.
        self.check(Judge(1, [("read", 0), ("go", 0)]), Judge(1, [("read", 0), ("read", 0), ("go", 0)]),
                   ((0, 0), (1, 1), (1, 2)))

    def test_nothing(self):
        one, two = Judge(0, [("go", 0)]), Judge(0, [("go", 1), ("go", 0)])
        self.check(one, one, ((0, 0),))
        self.check(one, two, ((0, 0),))
        self.check(one, Judge(0, [("go", 1), TAKE]), None)
        self.check(one, Judge(0, [TAKE]), None)
        self.check(one, Judge(0, [REFUSE]), None)
        self.check(Judge(0, [("claim", 1), ("go", 1)]), Judge(0, [("claim", 3), ("go", 2), ("go", 1), ("go", 3)]),
                   ((0, 0), (1, 1), (1, 3)))
        self.check(Judge(0, [("claim", 1), ("go", 1)]), Judge(0, [("claim", 2), ("go", 1), REFUSE]), None)
        # Into a circle of goes from outside.
        self.check(Judge(0, [("go", 1), ("go", 2), ("go", 3), ("go", 1)]), one, ((0, 0),))

    def test_each_difference(self):
        """Instructions that differ in one member."""
        ends = [("go", 4), TAKE, REFUSE, REFUSE]
        same_lines = [("read", 0), ("claim", 2), ("zero", 0), ("copy", 0, 1), ("step", 0, 2), ("first", 0, 2),
                      ("same", 0, 1, 2), ("fact", "edge", (0, 1), 2), ("fact", "mark", (0,), 2), TAKE, REFUSE]
        others = [("read", 1), ("zero", 1), ("copy", 1, 0), ("copy", 0, 0), ("step", 1, 2), ("first", 1, 2),
                  ("same", 1, 0, 2), ("same", 0, 0, 2), ("fact", "edge", (1, 0), 2), ("fact", "edge", (0, 0), 2),
                  ("fact", "edges", (0, 1), 2), ("fact", "mark", (1,), 2), ("step", 0, 3), ("first", 0, 3),
                  ("claim", 3), ("same", 0, 1, 3), ("fact", "edge", (0, 1), 3), ("fact", "mark", (0,), 3)]
        for line, other in itertools.product(same_lines + others, repeat=2):
            one, two = Judge(2, [line] + ends), Judge(2, [other] + ends)
            self.assertEqual(line_table(one, two) is None, line != other, (line, other))

    def test_goals_and_lines_behind(self):
        one = Judge(0, [("claim", 2), TAKE, REFUSE])
        for lines in ([("claim", 1), TAKE, REFUSE], [("claim", 2), REFUSE, TAKE], [("claim", 2), TAKE, TAKE],
                      [("claim", 2), ("go", 2), REFUSE]):
            self.check(one, Judge(0, lines), None)
        self.check(one, Judge(0, [("claim", 1), REFUSE, TAKE]), None)
        self.check(one, Judge(0, [("claim", 2), ("go", 3), REFUSE, TAKE]), ((0, 0), (1, 1), (2, 2)))

    def test_other_registers_or_given(self):
        for one, two in ((Judge(1, [TAKE]), Judge(2, [TAKE])), (Judge(2, [TAKE]), Judge(2, [TAKE], 1)),
                         (Judge(2, [TAKE], 1), Judge(2, [TAKE], 2)), (Judge(3, [TAKE], 1), Judge(2, [TAKE], 1))):
            self.check(one, two, None)
            self.assertIs(is_line_table(one, two, ((0, 0),)), False)
        self.check(Judge(2, [TAKE], 1), Judge(2, [TAKE], 1), ((0, 0),))
        self.assertIs(is_line_table(Judge(2, [TAKE], 1), Judge(2, [TAKE], 1), ((0, 0),)), True)

    def test_least_of_all_good_tables(self):
        chance = random.Random(51)
        told = {True: 0, False: 0}
        for _ in range(150):
            one = samples.some_judge(chance, 0, chance.randrange(1, 4))
            two = samples.some_judge(chance, 0, chance.randrange(1, 4))
            if chance.random() < 0.7:
                one, two = some_few(chance, len(one.lines)), some_few(chance, len(two.lines))
            tables = good_tables(one, two)
            told[bool(tables)] += 1
            least = tuple(sorted(set.intersection(*tables))) if tables else None
            self.check(one, two, least)
            for table in tables:
                self.assertTrue(is_line_table(one, two, sorted(table, reverse=True)))
        self.assertGreater(min(told.values()), 30)

    def test_all_tables(self):
        chance = random.Random(52)
        told = {True: 0, False: 0}
        for _ in range(40):
            one, two = some_few(chance, chance.randrange(1, 4)), some_few(chance, chance.randrange(1, 4))
            pairs = list(itertools.product(range(len(one.lines)), range(len(two.lines))))
            for number in range(len(pairs) + 1):
                for lot in itertools.combinations(pairs, number):
                    expected = is_good(one, two, set(lot))
                    told[expected] += 1
                    self.assertIs(is_line_table(one, two, lot), expected)
        self.assertGreater(min(told.values()), 300)

    def test_same_verdicts(self):
        chance = random.Random(53)
        like = 0
        for _ in range(300):
            one, two = some_few(chance, chance.randrange(1, 5)), some_few(chance, chance.randrange(1, 5))
            if line_table(one, two) is not None:
                like += 1
                for letters in samples.all_letters(2, 5):
                    self.assertEqual(verdict(one, CHAIN, letters), verdict(two, CHAIN, letters))
        self.assertGreater(like, 40)

    def test_many_lines(self):
        one = Judge(1, [("read", 0)] * 19999 + [TAKE])
        self.assertEqual(line_table(one, one), tuple((line, line) for line in range(20000)))
        self.assertTrue(is_line_table(one=one, two=one, table=[[line, line] for line in range(20000)]))
        self.assertIsNone(line_table(one, Judge(1, [("read", 0)] * 19999 + [REFUSE])))
        gone = Judge(1, [("go", line + 1) for line in range(19999)] + [TAKE])
        self.assertEqual(line_table(one=gone, two=Judge(1, [TAKE])), ((0, 0),))
        circle = Judge(1, [("go", (line + 1) % 20000) for line in range(20000)])
        self.assertEqual(line_table(circle, Judge(1, [("go", 0)])), ((0, 0),))


class IsLineTable(unittest.TestCase):
    one = Judge(1, [("read", 0), ("first", 0, 0), TAKE])
    two = Judge(1, [("go", 2), TAKE, ("read", 0), ("first", 0, 0), ("go", 1)])
    least = ((0, 0), (1, 3), (2, 4))

    def test_any_order_and_members_more_than_once(self):
        self.assertEqual(line_table(self.one, self.two), self.least)
        for lot in itertools.permutations(self.least):
            self.assertIs(is_line_table(self.one, self.two, lot), True)
            self.assertIs(is_line_table(self.one, self.two, [list(pair) for pair in lot]), True)
            self.assertIs(is_line_table(self.one, self.two, lot + lot[:2] + (list(lot[2]),)), True)

    def test_a_pair_less(self):
        for at in range(3):
            self.assertIs(is_line_table(self.one, self.two, self.least[:at] + self.least[at + 1:]), False)
        for pair in self.least:
            self.assertIs(is_line_table(self.one, self.two, (pair,)), False)

    def test_a_pair_more(self):
        for pair in itertools.product(range(3), range(5)):
            expected = pair in self.least + ((0, 2), (2, 1))
            self.assertIs(is_line_table(self.one, self.two, self.least + (pair,)), expected)
            self.assertIs(is_line_table(self.one, self.two, (pair,) + self.least), expected)
        self.assertIs(is_line_table(self.one, self.two, self.least + ((0, 2), (2, 1))), True)

    def test_without_members(self):
        for table in ((), []):
            self.assertIs(is_line_table(self.one, self.two, table), False)
            self.assertIs(is_line_table(Judge(0, [TAKE]), Judge(0, [TAKE]), table), False)

    def test_members_that_are_no_pairs_of_lines(self):
        for wrong in (None, 0, True, "00", "", (), (0,), (0, 0, 0), (3, 0), (0, 5), (-1, 0), (0, -1), (None, 0), (0, None),
                      ("0", 0), (False, 0), (0, False), (True, 3), (1, True), ((0,), 0), ((0, 0), (0, 0)), [[], []],
                      (10 ** 30, 0), (2, 4, 0), [0, [0]]):
            for table in ((wrong,), self.least + (wrong,), (wrong,) + self.least, [wrong] + list(self.least)):
                self.assertIs(is_line_table(self.one, self.two, table), False, table)

    def test_without_the_beginning(self):
        self.assertIs(is_line_table(self.one, self.two, ((2, 4),)), False)
        self.assertIs(is_line_table(self.one, self.two, ((2, 1),)), False)
        self.assertIs(is_line_table(Judge(0, [TAKE]), Judge(0, [("go", 1), TAKE]), ((0, 1),)), False)
        self.assertIs(is_line_table(Judge(0, [TAKE]), Judge(0, [("go", 1), TAKE]), ((0, 1), (0, 0))), True)

    def test_unlike_judges(self):
        for table in (((0, 0),), self.least, tuple(itertools.product(range(1), range(1)))):
            self.assertIs(is_line_table(Judge(1, [TAKE]), Judge(1, [REFUSE]), table), False)


if __name__ == "__main__":
    unittest.main()
