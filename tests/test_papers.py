"""Point 40: paper."""

import random
import unittest

from onceread.errors import TooLong
from onceread.grammar import is_right
from onceread.lengths import paper_length
from onceread.papers import paper
from onceread.questions import Question
from onceread.sentences import read_question
from onceread.worlds import World

import naive
import samples
from samples import CHAIN, DOWNWARDS, NO_PAPER, PAIR, STEPS, UPWARDS, check_error


class Paper(unittest.TestCase):
    def check(self, text, world, things, side, letters):
        """letters: a text of letters, in which blanks do not matter."""
        expected = side, tuple(int(letter) for letter in letters.replace(" ", ""))
        question = read_question(text)
        values = tuple(zip("xyz", things))
        with self.subTest(text=text, things=things):
            found = paper(question, world, values=values)
            self.assertEqual(found, expected)
            self.assertIsInstance(found[1], tuple)
            self.assertEqual(paper_length(question, world, values), len(found[1]))
            other = read_question("not (" + text + ")")
            self.assertEqual(paper(other, world, values=values), ({"yes": "no", "no": "yes"}[side], expected[1]))

    def test_example(self):
        self.assertEqual(paper(STEPS, CHAIN, values=UPWARDS), ("yes", (1, 2)))
        self.assertEqual(paper(question=STEPS, world=CHAIN, values=DOWNWARDS, limit=15), ("no", NO_PAPER))
        self.assertEqual(paper(STEPS, CHAIN, values=[["y", 0], ["x", 1], ["z", 2]]), ("no", NO_PAPER))

    def test_atoms(self):
        for text, things, side in (("edge(x, y)", (0, 1), "yes"), ("edge(x, y)", (1, 0), "no"), ("x = y", (2, 2), "yes"),
                                   ("x = y", (0, 2), "no"), ("x < y", (0, 2), "yes"), ("x < y", (2, 2), "no"),
                                   ("next(x, y)", (1, 2), "yes"), ("next(x, y)", (0, 2), "no"), ("first(x)", (0,), "yes"),
                                   ("first(x)", (1,), "no"), ("last(x)", (2,), "yes"), ("last(x)", (0,), "no")):
            self.check(text, CHAIN, things, side, "")

    def test_joined(self):
        self.check("edge(x, y) and x < y", CHAIN, (0, 1), "yes", "")
        self.check("edge(x, y) and x < y", CHAIN, (0, 2), "no", "0")
        self.check("edge(x, y) and y < x", CHAIN, (0, 1), "no", "1")
        self.check("edge(x, y) and y < x", CHAIN, (0, 0), "no", "0")
        self.check("edge(x, y) or x < y", CHAIN, (0, 2), "yes", "1")
        self.check("edge(x, y) or x < y", CHAIN, (0, 1), "yes", "0")
        self.check("edge(x, y) or x < y", CHAIN, (2, 0), "no", "")
        # The second half has the shorter paper.
        self.check("(some z: z = z) or x = x", CHAIN, (0,), "yes", "1")
        self.check("(some z: z = z) or (some z: last(z))", CHAIN, (0,), "yes", "00")

    def test_bound(self):
        self.check("some z: edge(x, z)", CHAIN, (1,), "yes", "2")
        self.check("some z: x < z", CHAIN, (0,), "yes", "1")
        self.check("some z: (edge(x, z) and x = z)", CHAIN, (0,), "no", "0 1 0".replace(" ", ""))
        self.check("every z: (x = z or edge(x, z))", CHAIN, (0,), "no", "2")
        self.check("every z: (x = z or x < z)", CHAIN, (0,), "yes", "011")
        # A later thing has a shorter paper.
        self.check("some z: ((z < x and some y: y = y) or last(z))", CHAIN, (2,), "yes", "21")

    def test_more(self):
        self.check("more z: mark(z) than z: edge(x, z)", CHAIN, (2,), "yes", "010 000")
        self.check("more z: mark(z) than z: edge(x, z)", CHAIN, (0,), "no", "010 010")
        self.check("more z: (z = x or z = y) than z: (edge(x, z) and edge(z, y))", PAIR, (0, 1), "yes", "10 11 00 01")
        self.check("more z: first(z) than z: (mark(z) or z = z)", PAIR, (), "no", "1 0 11 10")

    def test_walks(self):
        self.check("walk [a -> b: edge(a, b)] x -> y", CHAIN, (1, 1), "yes", "")
        self.check("walk [a -> b: edge(a, b)] x -> y", CHAIN, (2, 0), "no", "0 001 0 001 1")
        self.check("walk [a -> b: edge(a, b)] x -> y", CHAIN, (2, 1), "no", "0 001 0 001 1")
        self.check("walk [a -> b: edge(a, b)] x -> y", samples.LOOSE, (0, 1), "no", "1 0 10")
        # Of ways with as many letters, the one that comes first.
        world = World(4, [("edge", 2, [(0, 1), (0, 2), (1, 3), (2, 3)])])
        self.check("walk [a -> b: edge(a, b)] x -> y", world, (0, 3), "yes", "13")
        world = World(4, [("edge", 2, [(1, 0), (1, 2), (0, 3), (2, 3)])])
        self.check("walk [a -> b: edge(a, b)] x -> y", world, (1, 3), "yes", "03")

    def test_ways_that_change_from_round_to_round(self):
        # To go to 2 by one step needs five letters more than by way of 1; so the way of two steps is
        # taken as soon as it may have so many.
        text = "walk [a -> b: edge(a, b) or (first(a) and next(b, y) and every c: (c = c or c = c))] x -> y"
        world = World(4, [("edge", 2, [(0, 1), (1, 2)])])
        question, values = read_question(text), (("x", 0), ("y", 3))
        found = paper(question, world, values=values)
        self.assertEqual(found, ("no", naive.least(question.tree, False, world, dict(values))))
        self.assertEqual(found[1][:10], (1, 1, 1, 0, 1, 2, 1, 0, 0, 0))
        self.assertEqual(paper_length(question, world, values), len(found[1]))

    def test_as_many_letters_with_more_steps(self):
        # From 3 to 2: by one step with the letters 2 1 0 0, or, where two steps are allowed, by 0 with 0 0 2 0.
        text = "walk [a -> b: edge(a, b) or (last(a) and next(b, a) and some c: some d: c = d)] x -> y"
        question = read_question(text)
        world = World(4, [("edge", 2, [(3, 0), (0, 2)])])
        values = (("x", 3), ("y", 1))
        denial, other = "0 000 1 01", "0 100 00 0 12100 00 1 01"
        expected = "100 %s 12100 1" % denial + "100 %s 10020 1" % other
        self.check(text, world, (3, 1), "no", expected)
        self.assertEqual(paper(question, world, values=values)[1], naive.least(question.tree, False, world, dict(values)))
        self.check(text, world, (3, 2), "yes", "0020")

    def test_wide(self):
        text = "walk [a b -> c d: edge(a, c) and b = d] x y -> y y"
        self.check(text, CHAIN, (0, 1), "yes", "11")
        self.check(text, PAIR, (1, 0), "no", "0 00100 0 00100 1 0 00100")
        self.check("walk [a b -> c d: (a = c and edge(b, d)) or (b = d and edge(a, c))] x x -> y y", CHAIN, (0, 1), "yes",
                   "010111")

    def test_nested_walks(self):
        self.check("walk [a -> b: not walk [c -> d: edge(c, d)] a -> b] x -> y", PAIR, (1, 0), "yes", "0 0011")
        self.check("walk [a -> b: not walk [c -> d: edge(c, d)] a -> b] x -> y", PAIR, (0, 1), "no", "1 0 11 0")
        self.check("every z: walk [a -> b: edge(a, b)] x -> z", CHAIN, (0,), "yes", "112")
        self.check("every z: walk [a -> b: edge(a, b)] x -> z", CHAIN, (1,), "no", "0 0010 1 12 00112 1 12")

    def test_all_samples(self):
        for question in samples.QUESTIONS + samples.WIDE:
            for world in (PAIR, samples.LOOSE, CHAIN):
                for values in samples.all_values(question, world):
                    things = dict(values)
                    yes = naive.holds(question.tree, world, things)
                    if len(question.tree) == 6 and len(question.tree[1]) == 2 and world is CHAIN and not yes:
                        continue
                    expected = "yes" if yes else "no", naive.least(question.tree, yes, world, things)
                    self.assertEqual(paper(question, world, values=values), expected, (question.tree, values))

    def test_least_of_all(self):
        chance = random.Random(42)
        for _ in range(300):
            world = samples.some_world(chance, chance.choice((2, 2, 3)))
            question = samples.some_question(chance, chance.choice((2, 2, 3)))
            values = samples.some_values(chance, question, world)
            side, letters = paper(question, world, values=values, limit=10 ** 6)
            self.assertTrue(is_right(question, side, world, letters, values))
            if len(letters) <= 9:
                self.assertEqual(naive.right_papers(question, side, world, values, len(letters))[0], letters)

    def test_random(self):
        chance = random.Random(43)
        told = {"yes": 0, "no": 0}
        for _ in range(600):
            world = samples.some_world(chance, chance.choice((2, 3)))
            question = samples.some_question(chance, chance.choice((2, 3, 3)))
            values = samples.some_values(chance, question, world)
            yes = naive.holds(question.tree, world, dict(values))
            side = "yes" if yes else "no"
            expected = naive.least(question.tree, yes, world, dict(values))
            self.assertEqual(paper(question, world, values=values, limit=len(expected)), (side, expected), question.tree)
            self.assertEqual(paper_length(question, world, values), len(expected))
            told[side] += len(expected) > 2
        self.assertGreater(min(told.values()), 30)


class Limit(unittest.TestCase):
    def test_limit(self):
        self.assertEqual(paper(STEPS, CHAIN, values=UPWARDS, limit=2), ("yes", (1, 2)))
        for limit in (0, 1):
            check_error(self, TooLong(2), paper, STEPS, CHAIN, values=UPWARDS, limit=limit)
        self.assertEqual(paper(STEPS, CHAIN, values=DOWNWARDS, limit=15), ("no", NO_PAPER))
        for limit in (0, 2, 14):
            check_error(self, TooLong(15), paper, STEPS, CHAIN, values=DOWNWARDS, limit=limit)
        self.assertEqual(paper(STEPS, CHAIN, values=(("x", 1), ("y", 1)), limit=0), ("yes", ()))
        self.assertEqual(paper(read_question("edge(x, y)"), CHAIN, values=DOWNWARDS, limit=0), ("no", ()))

    def test_limit_left_out(self):
        # 5 * 20000 letters, and one more.
        tree = ("every", "z", ("or", ("same", "z", "z"), ("same", "z", "z")))
        for name in ("u", "v", "w"):
            tree = ("every", name, tree)
        question = Question(tree)
        world = World(17)
        self.assertEqual(paper_length(question, world), 17 ** 4)
        self.assertEqual(paper(question, world), ("yes", (0,) * 17 ** 4))
        check_error(self, TooLong(18 ** 4), paper, question, World(18))
        self.assertEqual(len(paper(question, World(18), limit=18 ** 4)[1]), 18 ** 4)

    def test_just_at_the_bound(self):
        # A way of 100000 letters: 1000 copies of one of 100.
        tree = ("walk", ("a",), ("b",), ("next", "a", "b"), ("x",), ("y",))
        question = Question(("every", "u", ("every", "v", tree)))
        values = (("x", 0), ("y", 10))
        world = World(100)
        self.assertEqual(len(paper(question, world, values=values)[1]), 100000)
        check_error(self, TooLong(100000), paper, question, world, values=values, limit=99999)
        longer = Question(("some", "w", question.tree))
        check_error(self, TooLong(100001), paper, longer, world, values=values)
        self.assertEqual(len(paper(longer, world, values=values, limit=100001)[1]), 100001)
        check_error(self, TooLong(110000), paper, question, world, values=(("x", 0), ("y", 11)))

    def test_errors(self):
        # With limit 0, TooLong would be due where a question has been made to fit the world.
        samples.check_question_errors(self, lambda question, world, values: paper(question, world, values=values, limit=0))
        samples.check_question_errors(self, lambda question, world, values: paper(question, world, values=values))
        self.assertRaises(TypeError, paper, STEPS, CHAIN, UPWARDS)


if __name__ == "__main__":
    unittest.main()
