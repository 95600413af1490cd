"""Points 31 and 32: least_letters and taken_papers."""

import itertools
import random
import unittest

from onceread.errors import BadGiven, NoSuchRelation, TooMany
from onceread.judges import Judge
from onceread.reaching import reached
from onceread.running import verdict
from onceread.seeking import least_letters, taken_papers
from onceread.worlds import World

import samples
from samples import check_error

TAKE, REFUSE = ("take",), ("refuse",)
CHAIN, PAIR = samples.CHAIN, samples.PAIR
# Takes a way along the edges from one given thing to the other one.
WAY = Judge(3, [("same", 0, 1, 5), ("read", 2), ("fact", "edge", (0, 2), 4), REFUSE, ("go", 6), TAKE, ("copy", 0, 2),
                ("go", 0)], 2)


def taken(judge, world, given, upto):
    return [letters for letters in samples.all_letters(world.size, upto)
            if verdict(judge, world, letters, given) == "taken"]


class LeastLetters(unittest.TestCase):
    def test_way(self):
        self.assertEqual(least_letters(WAY, CHAIN, (0, 2)), (1, 2))
        self.assertEqual(least_letters(WAY, CHAIN, [1, 2]), (2,))
        self.assertEqual(least_letters(WAY, CHAIN, (1, 1)), ())
        self.assertIsNone(least_letters(WAY, CHAIN, (2, 0)))
        self.assertIsInstance(least_letters(judge=WAY, world=CHAIN, given=(0, 2), limit=300), tuple)

    def test_fewer_letters_come_first(self):
        # The claim 0 leads to a longer paper than the claim 1.
        judge = Judge(1, [("claim", 4), ("claim", 2), ("claim", 3), TAKE, ("read", 0), ("first", 0, 7), REFUSE, TAKE])
        self.assertEqual(least_letters(judge, CHAIN), (1, 0))
        self.assertEqual(next(taken_papers(judge, CHAIN, upto=3)), (1, 0))
        judge = Judge(1, [("claim", 4), ("read", 0), ("read", 0), TAKE, ("go", 3)])
        self.assertEqual(least_letters(judge, CHAIN), (1,))

    def test_ascending_order_comes_second(self):
        judge = Judge(2, [("read", 0), ("read", 1), ("same", 0, 1, 4), TAKE, REFUSE])
        self.assertEqual(least_letters(judge, CHAIN), (0, 1))
        judge = Judge(2, [("read", 0), ("read", 1), ("fact", "edge", (1, 0), 4), REFUSE, TAKE])
        self.assertEqual(least_letters(judge, CHAIN), (1, 0))
        # Both claims lead to one standing: the lesser letter is taken.
        self.assertEqual(least_letters(Judge(0, [("claim", 1), TAKE]), CHAIN), (0,))
        # The lesser first letter leads by more moves, but by as many letters.
        judge = Judge(1, [("claim", 4), ("zero", 0), ("zero", 0), ("go", 4), ("claim", 5), TAKE])
        self.assertEqual(least_letters(judge, CHAIN), (0, 0))

    def test_none(self):
        for lines in ([REFUSE], [("go", 0)], [("claim", 0), ("go", 0)], [("claim", 1), REFUSE, TAKE],
                      [("go", 2), TAKE, ("go", 0)]):
            self.assertIsNone(least_letters(Judge(0, lines), CHAIN))
        self.assertIsNone(least_letters(Judge(1, [("read", 0), ("first", 0, 3), ("go", 1), ("go", 0), TAKE]), CHAIN))

    def test_no_letters(self):
        self.assertEqual(least_letters(Judge(0, [TAKE]), CHAIN), ())
        self.assertEqual(least_letters(Judge(1, [("step", 0, 2), ("go", 0), TAKE]), CHAIN), ())

    def test_long(self):
        # A number of four digits is counted up, with a letter for each step.
        lines = [("claim", 1)] + [("step", at, 2 * at + 3) if half == 0 else ("go", 0)
                                  for at in range(4) for half in range(2)] + [TAKE]
        found = least_letters(Judge(4, lines), World(7))
        self.assertEqual(found, (0,) * 7 ** 4)

    def test_a_long_way_to_each_letter(self):
        # All letters lead into one long way without letters: it is gone once.
        lines = [("read", 0)] + [("zero", 1)] * 3000 + [("first", 0, 3003), REFUSE, TAKE]
        self.assertEqual(least_letters(Judge(2, lines), World(6)), (0,))

    def test_limit(self):
        lines = [TAKE, ("read", 0), TAKE]
        many = [Judge(0, [TAKE]), Judge(1, [("go", 1)] + lines), WAY, Judge(2, [("read", 0), ("read", 1), TAKE])]
        for judge in many:
            given = (0,) * judge.given
            number = len(reached(judge, CHAIN, given))
            self.assertEqual(least_letters(judge, CHAIN, given, limit=number), least_letters(judge, CHAIN, given))
            for limit in range(1, number):
                check_error(self, TooMany(limit), least_letters, judge, CHAIN, given, limit=limit)
        # A paper would be known at once, but more than so many standings are reached.
        judge = Judge(3, [("claim", 2), TAKE, ("read", 0), ("read", 1), ("read", 2), ("go", 0)])
        self.assertRaises(TooMany, least_letters, judge, World(30))
        self.assertEqual(least_letters(judge, World(30), limit=200000), (0,))
        # Just so many, and one more.
        many = [("go", line + 1) for line in range(19998)]
        self.assertEqual(least_letters(Judge(1, many[:-1] + [("read", 0), TAKE]), PAIR), (0,))
        check_error(self, TooMany(20000), least_letters, Judge(1, many + [("read", 0), TAKE]), PAIR)
        self.assertRaises(TypeError, least_letters, judge, World(2), (), 100)

    def test_errors(self):
        for given in ((), (0,), (0, 3), (0, True), None, (0, 0, 0)):
            check_error(self, BadGiven, least_letters, WAY, CHAIN, given)
            check_error(self, NoSuchRelation("edge"), least_letters, WAY, World(3), given)

    def test_random(self):
        chance = random.Random(31)
        found = 0
        for _ in range(400):
            world = samples.some_world(chance, chance.choice((2, 2, 3)))
            judge = samples.some_judge(chance, chance.randrange(1, 4), chance.randrange(2, 9))
            given = [chance.randrange(world.size) for _ in range(judge.given)]
            least = least_letters(judge, world, given)
            expected = taken(judge, world, given, 4)
            found += bool(expected)
            if expected:
                self.assertEqual(least, expected[0])
            elif least is not None:
                self.assertGreater(len(least), 4)
                self.assertEqual(verdict(judge, world, least, given), "taken")
        self.assertGreater(found, 80)


class TakenPapers(unittest.TestCase):
    def test_order(self):
        self.assertEqual(list(taken_papers(WAY, CHAIN, (0, 2), upto=5)), [(1, 2)])
        ring = World(3, [("edge", 2, [(0, 1), (1, 0), (1, 2)])])
        self.assertEqual(list(taken_papers(WAY, ring, (0, 2), upto=5)), [(1, 2), (1, 0, 1, 2)])
        judge = Judge(2, [("claim", 2), TAKE, ("read", 0), ("read", 1), ("same", 0, 1, 6), REFUSE, TAKE])
        self.assertEqual(list(taken_papers(judge, World(2), upto=3)), [(0,), (1, 0, 0), (1, 1, 1)])
        self.assertEqual(list(taken_papers(judge, World(2), upto=2)), [(0,)])
        self.assertEqual(list(taken_papers(judge, World(2), upto=0)), [])

    def test_each_once(self):
        # Many rows of moves lead to one standing.
        judge = Judge(1, [("claim", 1), ("read", 0), ("zero", 0), TAKE])
        self.assertEqual(list(taken_papers(judge, World(2), upto=9)), [(0, 0), (0, 1), (1, 0), (1, 1)])

    def test_none_and_no_letters(self):
        self.assertEqual(list(taken_papers(Judge(0, [TAKE]), CHAIN, upto=0)), [()])
        self.assertEqual(list(taken_papers(Judge(0, [TAKE]), CHAIN, upto=4)), [()])
        for lines in ([REFUSE], [("go", 0)], [("claim", 0), ("go", 0)]):
            self.assertEqual(list(taken_papers(Judge(0, lines), CHAIN, upto=4)), [])

    def test_ends_however_far_it_may_go(self):
        judge = Judge(0, [("claim", 3), ("go", 2), REFUSE, TAKE])
        self.assertEqual(list(taken_papers(judge, CHAIN, upto=10 ** 12)), [(1,)])
        self.assertEqual(list(taken_papers(WAY, CHAIN, (0, 2), upto=10 ** 12)), [(1, 2)])
        self.assertEqual(list(taken_papers(WAY, CHAIN, (2, 0), upto=10 ** 12)), [])

    def test_is_a_generator(self):
        # The first ones of papers without end.
        judge = Judge(0, [("claim", 0), TAKE])
        self.assertEqual(list(itertools.islice(taken_papers(judge, CHAIN, upto=10 ** 12), 3)), [(0,), (1, 0), (1, 1, 0)])
        self.assertEqual(list(taken_papers(judge, CHAIN, upto=400))[-1], (1,) * 399 + (0,))
        found = taken_papers(judge, CHAIN, upto=2)
        self.assertIs(iter(found), found)
        self.assertEqual(next(found), (0,))
        self.assertEqual(next(found), (1, 0))
        self.assertRaises(StopIteration, next, found)

    def test_no_limit(self):
        # More than 20000 standings are reached.
        judge = Judge(3, [("claim", 2), TAKE, ("read", 0), ("read", 1), ("read", 2), ("go", 0)])
        self.assertEqual(list(itertools.islice(taken_papers(judge, World(30), upto=5), 2)), [(0,), (1, 0, 0, 0, 0)])

    def test_errors_at_the_first_item(self):
        for given in ((), (0,), (0, 3), (True, 0), None):
            found = taken_papers(WAY, CHAIN, given, upto=2)
            check_error(self, BadGiven, next, found)
            found = taken_papers(judge=WAY, world=World(3), given=given, upto=0)
            check_error(self, NoSuchRelation("edge"), next, found)
        self.assertRaises(TypeError, taken_papers, WAY, CHAIN, (0, 0), 3)
        self.assertRaises(TypeError, taken_papers, WAY, CHAIN, (0, 0))

    def test_random(self):
        chance = random.Random(32)
        found = 0
        for _ in range(400):
            world = samples.some_world(chance, chance.choice((2, 2, 3)))
            judge = samples.some_judge(chance, chance.randrange(1, 4), chance.randrange(2, 9))
            given = [chance.randrange(world.size) for _ in range(judge.given)]
            upto = chance.randrange(6)
            expected = taken(judge, world, given, upto)
            self.assertEqual(list(taken_papers(judge, world, given, upto=upto)), expected)
            found += len(expected) > 1
        self.assertGreater(found, 30)


if __name__ == "__main__":
    unittest.main()
