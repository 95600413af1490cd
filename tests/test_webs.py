"""Point 49: web and goal_reached."""

import random
import unittest

from onceread.errors import BadGiven, NoSuchRelation, TooMany
from onceread.judges import Judge
from onceread.meaning import holds
from onceread.papers import paper
from onceread.questions import Question
from onceread.reaching import can_take, moves, reached
from onceread.sentences import read_question
from onceread.webs import goal_reached, web
from onceread.worlds import World

import samples
from samples import CHAIN, PAIR, check_error

TAKE, REFUSE = ("take",), ("refuse",)
WAY = Judge(3, [("same", 0, 1, 5), ("read", 2), ("fact", "edge", (0, 2), 4), REFUSE, ("go", 6), TAKE, ("copy", 0, 2),
                ("go", 0)], 2)


class Web(unittest.TestCase):
    def check(self, judge, goals, pairs, size, world=CHAIN, given=()):
        with self.subTest(lines=judge.lines):
            found = web(judge, world, given)
            self.assertEqual(found, World(size, [("goal", 1, [(at,) for at in goals]), ("move", 2, pairs)]))
            self.assertEqual(found.names, ("goal", "move"))
            self.assertEqual((found.arity("goal"), found.arity("move")), (1, 2))

    def test_one_standing(self):
        self.check(Judge(0, [TAKE]), [0], [], 2)
        self.check(Judge(0, [REFUSE]), [], [], 2)
        self.check(Judge(0, [("go", 0)]), [], [(0, 0)], 2)
        self.check(Judge(3, [REFUSE, TAKE]), [], [], 2, World(400))

    def test_small(self):
        self.check(Judge(0, [("go", 1), TAKE]), [1], [(0, 1)], 2)
        self.check(Judge(0, [("claim", 2), TAKE, REFUSE]), [1], [(0, 1), (0, 2)], 3)
        self.check(Judge(0, [("claim", 2), TAKE, TAKE]), [1, 2], [(0, 1), (0, 2)], 3)
        self.check(Judge(1, [("read", 0), TAKE]), [1, 2], [(0, 1), (0, 2)], 3, PAIR)
        # Several letters that lead to the same standing.
        self.check(Judge(0, [("claim", 1), TAKE]), [1], [(0, 1)], 2)
        self.check(Judge(0, [("claim", 0), ("go", 0)]), [], [(0, 0), (0, 1), (1, 0)], 2)
        # In the order of reached, not of the lines.
        self.check(Judge(0, [("claim", 3), ("go", 2), TAKE, ("go", 2)]), [3], [(0, 1), (0, 2), (1, 3), (2, 3)], 4)

    def test_random(self):
        chance = random.Random(49)
        most = 0
        for _ in range(200):
            world = samples.some_world(chance, chance.choice((2, 3)))
            judge = samples.some_judge(chance, chance.randrange(4), chance.randrange(1, 8))
            given = tuple(chance.randrange(world.size) for _ in range(judge.given))
            standings = reached(judge, world, given)
            if len(standings) > 400:
                continue
            found = web(judge, world, list(given))
            most = max(most, found.size)
            self.assertEqual(found.size, max(2, len(standings)))
            for at, standing in enumerate(standings):
                self.assertIs(("goal", (at,)) in found, judge.lines[standing[0]][0] == "take")
                behind = {there for _, there in moves(judge, world, standing)}
                told = {there for there in range(found.size) if ("move", (at, there)) in found}
                self.assertEqual(told, {standings.index(there) for there in behind})
        self.assertGreater(most, 30)

    def test_limit(self):
        for judge, given in ((WAY, (0, 2)), (WAY, (2, 0)), (Judge(0, [REFUSE]), ()), (Judge(1, [("read", 0), TAKE]), ())):
            number = len(reached(judge, CHAIN, given))
            self.assertEqual(web(judge, CHAIN, given, limit=number), web(judge, CHAIN, given))
            for limit in range(1, number):
                check_error(self, TooMany(limit), web, judge, CHAIN, given, limit=limit)
        # 400 if it is left out: one beginning and a standing for each thing.
        judge = Judge(1, [("read", 0), TAKE])
        self.assertEqual(web(judge, World(399)).size, 400)
        self.assertEqual(web(judge=judge, world=World(399), given=(), limit=400).size, 400)
        check_error(self, TooMany(400), web, judge, World(400))
        check_error(self, TooMany(399), web, judge, World(399), limit=399)

    def test_errors(self):
        for given in ((), (0,), (0, 3), (0, True), None, (0, 0, 0)):
            check_error(self, BadGiven, web, WAY, CHAIN, given, limit=1)
            check_error(self, NoSuchRelation("edge"), web, WAY, World(3), given, limit=1)
        self.assertRaises(TypeError, web, WAY, CHAIN, (0, 0), 100)


class GoalReached(unittest.TestCase):
    def test_question(self):
        found = goal_reached()
        self.assertIsInstance(found, Question)
        self.assertEqual(found, read_question("some y: (goal(y) and walk [a -> b: move(a, b)] x -> y)"))
        self.assertEqual(found.free, ("x",))
        self.assertEqual(found.uses, (("goal", 1), ("move", 2)))

    def test_holds_if_the_judge_takes(self):
        chance = random.Random(50)
        told = {True: 0, False: 0}
        for _ in range(200):
            world = samples.some_world(chance, chance.choice((2, 3)))
            judge = samples.some_judge(chance, chance.randrange(3), chance.randrange(1, 8))
            given = tuple(chance.randrange(world.size) for _ in range(judge.given))
            expected = can_take(judge, world, given)
            found = web(judge, world, given)
            self.assertIs(holds(goal_reached(), found, (("x", 0),)), expected)
            if found.size < 8:
                side, _ = paper(goal_reached(), found, values=(("x", 0),), limit=10 ** 6)
                self.assertEqual(side, "yes" if expected else "no")
            told[expected] += 1
        self.assertGreater(min(told.values()), 50)


if __name__ == "__main__":
    unittest.main()
