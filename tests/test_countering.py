"""Point 47: counter and counter_bill."""

import random
import unittest

from onceread.countering import counter, counter_bill
from onceread.counterpapers import counter_paper
from onceread.errors import TooLarge
from onceread.judges import Judge
from onceread.reaching import can_take, reached
from onceread.running import verdict
from onceread.seeking import least_letters, taken_papers
from onceread.worlds import World

import naive
import samples
from samples import CHAIN, PAIR, check_error

TAKE, REFUSE = ("take",), ("refuse",)
WAY = Judge(3, [("same", 0, 1, 5), ("read", 2), ("fact", "edge", (0, 2), 4), REFUSE, ("go", 6), TAKE, ("copy", 0, 2),
                ("go", 0)], 2)


def plain(lines, registers, given=0):
    """A judge of so many lines and registers."""
    return Judge(registers, [("go", 0)] * lines, given)


def small_judge(chance):
    takes = chance.random() < 0.4
    return samples.some_judge(chance, chance.choice((0, 0, 0, 1)), chance.randrange(1, 5), takes=takes)


def some_given(chance, judge, world):
    return tuple(chance.randrange(world.size) for _ in range(judge.given))


def lying_paper(judge, world, given, hidden):
    """A paper that would be right if no move led to one of the standings."""
    def courses(most):
        found = {start: ()}
        for _ in range(most):
            for here, letters in list(found.items()):
                for letter, there in naive.moves(judge, world, here):
                    if there != hidden and there not in found:
                        found[there] = letters + (() if letter is None else (letter,))
        return found

    start = (0, tuple(given) + (0,) * (judge.registers - len(given)))
    letters, shown, number = (), {start: ()}, 0
    while True:
        number += 1
        claimed = courses(number)
        for there in naive.standings(judge, world):
            if there in claimed:
                letters += (1,) + claimed[there]
            else:
                letters += (0,)
                for here in naive.standings(judge, world):
                    letters += (1,) + shown[here] if here in shown else (0,)
        if len(claimed) == len(shown):
            return letters
        shown = claimed


class Bill(unittest.TestCase):
    def test_sum(self):
        for lines, digits in ((1, 1), (2, 1), (3, 2), (4, 2), (5, 3), (8, 3), (9, 4), (16, 4), (17, 5), (20000, 15)):
            for registers, given in ((0, 0), (1, 0), (1, 1), (6, 0), (6, 4), (400, 0), (400, 400)):
                with self.subTest(lines=lines, registers=registers, given=given):
                    found = counter_bill(plain(lines, registers, given))
                    self.assertEqual(found, given + 8 * (digits + registers) + 4)
        self.assertEqual(counter_bill(judge=WAY), 2 + 8 * (3 + 3) + 4)


class Shape(unittest.TestCase):
    def test_given_uses_and_registers(self):
        chance = random.Random(47)
        for _ in range(150):
            judge = samples.some_judge(chance, chance.randrange(5), chance.randrange(1, 20))
            found = counter(judge)
            self.assertIsInstance(found, Judge)
            self.assertEqual(found.given, judge.given)
            self.assertLessEqual(set(found.uses), set(judge.uses))
            self.assertLessEqual(found.registers, counter_bill(judge))
            self.assertEqual(counter(Judge(judge.registers, list(judge.lines), judge.given)), found)
        self.assertEqual(counter(judge=WAY).uses, (("edge", 2),))

    def test_made_from_the_judge_alone(self):
        # Its world may have any size.
        judge = Judge(1, [("read", 0), ("first", 0, 3), REFUSE, REFUSE])
        found = counter(judge)
        for size in (2, 3, 5):
            paper = counter_paper(judge, World(size), longest=10 ** 6)
            self.assertEqual(verdict(found, World(size), paper), "taken")
            self.assertEqual(verdict(found, World(size), paper[:-1]), "refused")
            self.assertEqual(verdict(found, World(size), paper + (0,)), "refused")


class Taken(unittest.TestCase):
    def check(self, judge, found, world, given, letters):
        expected = naive.is_counter_right(judge, world, letters, given)
        self.assertEqual(verdict(found, world, letters, given), "taken" if expected else "refused",
                         (judge.lines, world.facts, given, letters))
        return expected

    def test_all_short_papers(self):
        chance = random.Random(48)
        right = 0
        for _ in range(60):
            world, judge = samples.some_world(chance, 2), small_judge(chance)
            given, found = some_given(chance, judge, world), counter(judge)
            for letters in samples.all_letters(2, 9):
                right += self.check(judge, found, world, given, letters)
        self.assertGreater(right, 15)

    def test_as_many_standings_as_the_registers_can_count(self):
        # In a world of two things, with 2 or 4 lines: all standings are claimed, or all but one.
        for lines in ([("claim", 0), REFUSE], [("go", 1), REFUSE], [("claim", 1), ("go", 0)],
                      [("claim", 2), ("claim", 3), REFUSE, ("go", 0)], [("go", 1), ("go", 2), ("go", 3), REFUSE],
                      [("go", 2), REFUSE, ("claim", 3), REFUSE], [("claim", 3), ("go", 2), REFUSE, REFUSE]):
            judge = Judge(0, lines)
            found = counter(judge)
            paper = counter_paper(judge, PAIR)
            self.assertEqual(verdict(found, PAIR, paper), "taken")
            for at in range(len(paper)):
                for letter in (0, 1):
                    self.check(judge, found, PAIR, (), paper[:at] + (letter,) + paper[at + 1:])
                    self.check(judge, found, PAIR, (), paper[:at] + (letter,) + paper[at:])
                self.check(judge, found, PAIR, (), paper[:at] + paper[at + 1:])
            for letters in samples.all_letters(2, 12 if len(lines) == 2 else 10):
                self.check(judge, found, PAIR, (), letters)
        # A count of all, and then a standing that is told not to be reached: nothing shown at all.
        judge = Judge(0, [("claim", 0), REFUSE])
        self.check(judge, counter(judge), PAIR, (), (1, 1, 0, 1, 0, 0, 0))
        self.check(judge, counter(judge), PAIR, (), (1, 1, 0, 0, 0, 0, 0, 0, 0))

    def test_longer_papers(self):
        chance = random.Random(49)
        right, wrong = 0, 0
        for _ in range(250):
            world = samples.some_world(chance, chance.choice((2, 2, 3)))
            judge = samples.some_judge(chance, chance.randrange(3), chance.randrange(1, 6))
            given, found = some_given(chance, judge, world), counter(judge)
            paper = counter_paper(judge, world, given, longest=10 ** 7)
            if paper is None or len(paper) > 1500:
                continue
            self.assertEqual(verdict(found, world, paper, given), "taken")
            for _ in range(8):
                told = self.check(judge, found, world, given, samples.damaged(chance, paper, world.size))
                right, wrong = right + told, wrong + (not told)
        self.assertGreater(right, 30)
        self.assertGreater(wrong, 300)

    def test_each_instruction(self):
        """Each word, with moves that lead on and moves that do not, from each given thing."""
        world = World(2, [("edge", 2, [(0, 1), (1, 1)]), ("mark", 1, [(1,)]), ("tri", 3, [(0, 1, 1)])])
        for line in (("read", 0), ("read", 1), ("claim", 2), ("claim", 0), ("zero", 0), ("copy", 0, 1), ("copy", 1, 0),
                     ("step", 0, 2), ("step", 0, 0), ("step", 1, 1), ("first", 0, 2), ("same", 0, 1, 2),
                     ("same", 1, 1, 2), ("fact", "edge", (0, 1), 2), ("fact", "edge", (1, 0), 2),
                     ("fact", "mark", (1,), 2), ("fact", "tri", (0, 1, 1), 2), ("go", 2), ("go", 0)):
            judge = Judge(2, [line, REFUSE, REFUSE], 1)
            found = counter(judge)
            for thing in range(2):
                paper = counter_paper(judge, world, (thing,))
                self.assertEqual(verdict(found, world, paper, (thing,)), "taken", line)
                for at in range(0, len(paper), max(1, len(paper) // 20)):
                    for letter in range(3):
                        other = paper[:at] + (letter,) + paper[at + 1:]
                        self.check(judge, found, world, (thing,), other)

    def check_lies(self, judge, world, given):
        """It is told of each standing that is reached, but for the beginning, that it is not."""
        found = counter(judge)
        standings = reached(judge, world, given)
        for hidden in standings[1:]:
            letters = lying_paper(judge, world, given, hidden)
            self.assertFalse(naive.is_counter_right(judge, world, letters, given))
            self.assertEqual(verdict(found, world, letters, given), "refused", (judge.lines, given, hidden))
        return len(standings) - 1

    def test_each_move_is_seen(self):
        world = World(2, [("edge", 2, [(0, 1), (1, 1)]), ("mark", 1, [(1,)]), ("tri", 3, [(0, 1, 1)])])
        for line in (("read", 0), ("read", 1), ("claim", 3), ("claim", 1), ("claim", 2), ("zero", 0), ("copy", 0, 1),
                     ("copy", 1, 0), ("step", 0, 3), ("step", 1, 3), ("first", 0, 3), ("first", 1, 3), ("same", 0, 1, 3),
                     ("fact", "edge", (0, 1), 3), ("fact", "edge", (1, 0), 3), ("fact", "mark", (1,), 3),
                     ("fact", "tri", (0, 1, 1), 3), ("go", 3), ("go", 1)):
            # The line stands behind one that is never come to, and what is hidden behind both or between.
            for lines in ([line, REFUSE, REFUSE, REFUSE], [("go", 2), REFUSE, line, REFUSE],
                          [("go", 2), REFUSE, line, TAKE], [("go", 3), REFUSE, TAKE, line, REFUSE]):
                for given in ((0, 0), (0, 1), (1, 0), (1, 1)):
                    self.check_lies(Judge(2, lines, 2), world, given)

    def test_each_move_is_seen_at_random(self):
        chance = random.Random(54)
        lies = 0
        for _ in range(150):
            world = samples.some_world(chance, chance.choice((2, 2, 3)))
            judge = samples.some_judge(chance, chance.choice((0, 1, 1)), chance.randrange(2, 7))
            lies += self.check_lies(judge, world, some_given(chance, judge, world))
        self.assertGreater(lies, 300)

    def test_papers_found_in_the_counter_judge(self):
        for lines in ([REFUSE], [TAKE], [("go", 0)], [("claim", 0), REFUSE], [("claim", 1), ("go", 0)],
                      [("claim", 1), TAKE], [("go", 1), REFUSE]):
            judge = Judge(0, lines)
            found = counter(judge)
            expected = [letters for letters in samples.all_letters(2, 10)
                        if naive.is_counter_right(judge, PAIR, letters)]
            self.assertEqual(list(taken_papers(found, PAIR, upto=10)), expected)
            least = counter_paper(judge, PAIR)
            self.assertEqual(least_letters(found, PAIR, limit=10 ** 5), least)
            # Just one of the two takes some paper.
            self.assertIs(can_take(found, PAIR, limit=10 ** 5), not can_take(judge, PAIR))

    def test_just_one_of_the_two(self):
        chance = random.Random(50)
        told = {True: 0, False: 0}
        for _ in range(120):
            world, judge = samples.some_world(chance, 2), small_judge(chance)
            given = some_given(chance, judge, world)
            takes = can_take(judge, world, given)
            told[takes] += 1
            if takes:
                # No paper that leads on to the standing at a take is taken.
                for letters in samples.all_letters(2, 6):
                    self.assertEqual(verdict(counter(judge), world, letters, given), "refused")
            else:
                paper = counter_paper(judge, world, given, longest=10 ** 6)
                self.assertEqual(verdict(counter(judge), world, paper, given), "taken")
        self.assertGreater(min(told.values()), 10)

    def test_never_endless(self):
        chance = random.Random(51)
        for _ in range(200):
            world = samples.some_world(chance, chance.choice((2, 3)))
            judge = samples.some_judge(chance, chance.randrange(3), chance.randrange(1, 7), takes=chance.random() < 0.3)
            given, found = some_given(chance, judge, world), counter(judge)
            for _ in range(4):
                letters = [chance.choice((0, 0, 1, 1, chance.randrange(world.size))) for _ in range(30)]
                self.assertNotEqual(verdict(found, world, letters, given), "endless")
        # Judges that go on for ever without a letter, also with a paper that is right so far.
        for lines in ([("go", 0)], [("go", 1), ("go", 0)], [("claim", 1), ("go", 1)]):
            found = counter(Judge(0, lines))
            for letters in samples.all_letters(2, 8):
                self.assertNotEqual(verdict(found, CHAIN, letters), "endless")

    def test_way(self):
        found = counter(WAY)
        for given in ((2, 0), (1, 0), (2, 1)):
            paper = counter_paper(WAY, CHAIN, given, longest=10 ** 6)
            if len(paper) < 200000:
                self.assertEqual(verdict(found, CHAIN, paper, given), "taken")
            self.assertEqual(verdict(found, CHAIN, paper[:500], given), "refused")


class Large(unittest.TestCase):
    def test_bill(self):
        for lines, registers, given in ((2, 48, 4), (1, 48, 0), (4, 47, 4), (8, 46, 4)):
            judge = Judge(registers, [("step", registers - 1, 0)] * (lines - 1) + [REFUSE], given)
            self.assertLessEqual(counter_bill(judge), 400)
            self.assertLessEqual(counter(judge).registers, counter_bill(judge))
        self.assertEqual(counter_bill(plain(2, 48, 4)), 400)
        for lines, registers, given in ((2, 48, 5), (1, 49, 0), (3, 48, 0), (3, 47, 5), (2, 400, 0), (1, 400, 400)):
            self.assertGreater(counter_bill(plain(lines, registers, given)), 400)
            check_error(self, TooLarge, counter, plain(lines, registers, given))

    def test_lines(self):
        judge = Judge(2, [("step", 0, 0), ("claim", 1)] * 9999 + [("claim", 0), TAKE])
        self.assertLessEqual(counter_bill(judge), 400)
        check_error(self, TooLarge, counter, judge)

    def test_promised(self):
        # At most 16 lines and 6 registers.
        for given in (0, 6):
            for line in (("claim", 15), ("read", 5), ("zero", 5), ("copy", 0, 5), ("step", 5, 15), ("first", 5, 15),
                         ("same", 4, 5, 15), ("fact", "tri", (3, 4, 5), 15), ("go", 15), TAKE, REFUSE):
                judge = Judge(6, [line] * 15 + [REFUSE], given)
                self.assertLessEqual(counter(judge).registers, counter_bill(judge))
        chance = random.Random(52)
        for _ in range(60):
            judge = samples.some_judge(chance, 6, 16)
            self.assertLessEqual(len(counter(judge).lines), 20000)
        # Goals to all lines.
        judge = Judge(6, [("fact", "tri", (line % 6, 0, 5), 15 - line) for line in range(15)] + [REFUSE])
        self.assertEqual(counter(judge).uses, (("tri", 3),))


if __name__ == "__main__":
    unittest.main()
