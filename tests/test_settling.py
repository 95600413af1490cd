"""Point 48: settled, beside counter_paper."""

import random
import unittest

from onceread.counterpapers import counter_paper, is_counter_right
from onceread.errors import BadGiven, NoSuchRelation, TooLong, TooMany
from onceread.judges import Judge
from onceread.reaching import can_take, reached
from onceread.running import verdict
from onceread.seeking import least_letters
from onceread.settling import settled
from onceread.worlds import World

import naive
import samples
from samples import CHAIN, PAIR, check_error

TAKE, REFUSE = ("take",), ("refuse",)
WAY = Judge(3, [("same", 0, 1, 5), ("read", 2), ("fact", "edge", (0, 2), 4), REFUSE, ("go", 6), TAKE, ("copy", 0, 2),
                ("go", 0)], 2)
# Takes the one paper of so many letters.
READS = {number: Judge(1, [("read", 0)] * number + [TAKE]) for number in (0, 1, 7)}


class Settled(unittest.TestCase):
    def test_taken(self):
        self.assertEqual(settled(Judge(0, [TAKE]), CHAIN), ("taken", ()))
        self.assertEqual(settled(WAY, CHAIN, (0, 2)), ("taken", (1, 2)))
        self.assertEqual(settled(WAY, CHAIN, [1, 1]), ("taken", ()))
        self.assertEqual(settled(READS[7], CHAIN), ("taken", (0,) * 7))
        self.assertEqual(settled(judge=WAY, world=CHAIN, given=(1, 2), limit=100, longest=0), ("taken", (2,)))

    def test_never(self):
        self.assertEqual(settled(Judge(0, [REFUSE]), CHAIN), ("never", (1,)))
        self.assertEqual(settled(Judge(0, [("go", 0)]), CHAIN), ("never", (1,)))
        self.assertEqual(settled(Judge(0, [("claim", 0), REFUSE]), CHAIN), ("never", (1, 1, 0, 1, 1, 0)))
        judge = Judge(0, [("claim", 1), REFUSE, TAKE])
        self.assertEqual(settled(judge, CHAIN), ("never", naive.counter_paper(judge, CHAIN)))
        word, letters = settled(WAY, CHAIN, (2, 0), longest=10 ** 6)
        self.assertEqual(word, "never")
        self.assertEqual(len(letters), 184407)
        self.assertTrue(is_counter_right(WAY, CHAIN, letters, (2, 0)))

    def test_random(self):
        chance = random.Random(48)
        found = {"taken": 0, "never": 0}
        for _ in range(250):
            world = samples.some_world(chance, chance.choice((2, 3)))
            judge = samples.some_judge(chance, chance.randrange(3), chance.randrange(1, 5))
            given = tuple(chance.randrange(world.size) for _ in range(judge.given))
            told = settled(judge, world, given, longest=10 ** 7)
            self.assertIsInstance(told, tuple)
            self.assertIsInstance(told[1], tuple)
            found[told[0]] += 1
            if can_take(judge, world, given):
                self.assertEqual(told, ("taken", least_letters(judge, world, given)))
                self.assertEqual(verdict(judge, world, told[1], given), "taken")
            else:
                self.assertEqual(told, ("never", counter_paper(judge, world, given, longest=10 ** 7)))
        self.assertGreater(min(found.values()), 60)

    def test_longest(self):
        judge = Judge(0, [("claim", 1), REFUSE, TAKE])
        letters = naive.counter_paper(judge, CHAIN)
        self.assertEqual(settled(judge, CHAIN, longest=len(letters)), ("never", letters))
        for longest in (0, 1, len(letters) - 1):
            check_error(self, TooLong(len(letters)), settled, judge, CHAIN, longest=longest)
        # A taken paper is never too long.
        for number, judge in READS.items():
            for longest in (0, 1, number):
                self.assertEqual(settled(judge, CHAIN, longest=longest), ("taken", (0,) * number))

    def test_longest_left_out(self):
        # The beginning alone: one claim, and for each other standing one more and those for all.
        for size, registers in ((2, 8), (17, 2), (18, 2), (400, 1)):
            judge = Judge(registers, [REFUSE])
            number = size ** registers
            length = 1 + (number - 1) * (1 + number)
            if length <= 100000:
                self.assertEqual(len(settled(judge, World(size))[1]), length)
            else:
                check_error(self, TooLong(length), settled, judge, World(size))
                check_error(self, TooLong(length), settled, judge, World(size), longest=length - 1)
        self.assertEqual(len(settled(Judge(2, [REFUSE]), World(18), longest=18 ** 4)[1]), 18 ** 4)

    def test_limit(self):
        for judge, given in ((WAY, (2, 0)), (WAY, (0, 2)), (READS[0], ()), (READS[7], ()), (Judge(0, [REFUSE]), ())):
            number = len(reached(judge, CHAIN, given))
            told = settled(judge, CHAIN, given, longest=10 ** 7)
            self.assertEqual(settled(judge, CHAIN, given, limit=number, longest=10 ** 7), told)
            for limit in range(1, number):
                check_error(self, TooMany(limit), settled, judge, CHAIN, given, limit=limit)
                check_error(self, TooMany(limit), settled, judge, CHAIN, given, limit=limit, longest=0)
        # A take that is met early does not matter, and the limit is 20000 if it is left out.
        many = [("go", line + 1) for line in range(19998)]
        self.assertEqual(settled(Judge(1, many[:-1] + [("read", 0), TAKE]), PAIR), ("taken", (0,)))
        check_error(self, TooMany(20000), settled, Judge(1, many + [("read", 0), TAKE]), PAIR)
        early = Judge(3, [("claim", 2), TAKE, ("read", 0), ("read", 1), ("read", 2), REFUSE])
        check_error(self, TooMany(20000), settled, early, World(30))
        self.assertEqual(settled(early, World(30), limit=10 ** 6), ("taken", (0,)))

    def test_errors(self):
        for given in ((), (0,), (0, 3), (0, True), (0, None), None, (0, 0, 0)):
            for more in ({}, {"limit": 1}, {"longest": 0}):
                check_error(self, BadGiven, settled, WAY, CHAIN, given, **more)
                check_error(self, NoSuchRelation("edge"), settled, WAY, World(3), given, **more)
                check_error(self, NoSuchRelation("edge"), settled, WAY, World(3, [("edge", 1, [])]), given, **more)
        self.assertRaises(TypeError, settled, WAY, CHAIN, (0, 0), 100)


if __name__ == "__main__":
    unittest.main()
