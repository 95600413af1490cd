"""Point 41: paper_length."""

import random
import unittest

from onceread.errors import TooLong
from onceread.lengths import paper_length
from onceread.papers import paper
from onceread.questions import Question
from onceread.sentences import read_question
from onceread.worlds import World

import naive
import samples
from samples import CHAIN, DOWNWARDS, STEPS, UPWARDS, check_error


def path(size, length=None):
    return World(size, [("edge", 2, [(thing, thing + 1) for thing in range((length or size) - 1)])])


class PaperLength(unittest.TestCase):
    def check(self, text, world, things, expected):
        found = paper_length(read_question(text), world, tuple(zip("xyz", things)))
        self.assertEqual(found, expected)
        self.assertNotIsInstance(found, bool)

    def test_example(self):
        self.assertEqual(paper_length(STEPS, CHAIN, UPWARDS), 2)
        self.assertEqual(paper_length(question=STEPS, world=CHAIN, values=[["y", 0], ["x", 1], ["z", 1]]), 15)

    def test_words(self):
        for text, things, expected in (
                ("edge(x, y)", (0, 1), 0), ("edge(x, y)", (1, 0), 0), ("not edge(x, y)", (1, 0), 0),
                ("x = y and x < y", (0, 1), 1), ("x = y or x < y", (0, 1), 1), ("x = y or x < y", (1, 0), 0),
                ("some z: edge(x, z)", (0,), 1), ("some z: edge(x, z)", (2,), 0), ("every z: edge(x, z)", (0,), 1),
                ("every z: (x = z or z = z)", (0,), 3), ("some z: (x = z and z < x)", (0,), 3),
                ("more z: mark(z) than z: edge(x, z)", (0,), 6), ("more z: mark(z) than z: (edge(x, z) and z < x)", (0,), 9),
                ("walk [a -> b: edge(a, b)] x -> y", (1, 1), 0), ("walk [a -> b: edge(a, b)] x -> y", (2, 0), 9)):
            self.check(text, CHAIN, things, expected)

    def test_the_shorter_half(self):
        # The second half has the shorter paper; and some things have shorter ones than others.
        self.check("(some z: z = z) or z = z", CHAIN, (0, 0, 0), 1)
        self.check("(every z: (edge(z, z) or z = z)) or (some z: z = z)", CHAIN, (0,), 2)
        self.check("some z: ((z < x and some y: y = y) or last(z))", CHAIN, (2,), 2)

    def test_fewer_letters_or_fewer_steps(self):
        # One step of many letters, or two steps of few.
        text = "walk [a -> b: edge(a, b) or (first(a) and last(b) and some c: some d: c = d)] x -> y"
        self.check(text, CHAIN, (0, 2), 4)
        self.check(text, World(3, [("edge", 2, [(0, 1)])]), (0, 2), 4)

    def test_fewer_letters_in_later_rounds(self):
        # A way with more steps has fewer letters, and is taken for all rounds in which it may have so many.
        text = "walk [a -> b: edge(a, b) or (first(a) and next(b, y) and every c: (c = c or c = c))] x -> y"
        world = World(4, [("edge", 2, [(0, 1), (1, 2)])])
        expected = naive.least(read_question(text).tree, False, world, {"x": 0, "y": 3})
        self.check(text, world, (0, 3), len(expected))
        text = "walk [a -> b: edge(a, b) or (next(a, b) and every c: every d: (c = d or not c = d))] x -> y"
        world = World(5, [("edge", 2, [(2, 4), (4, 3), (2, 2)])])
        for start in (2, 3):
            values = (("x", start), ("y", 0))
            expected = naive.least(read_question(text).tree, False, world, dict(values))
            self.check(text, world, (start, 0), len(expected))
            self.assertEqual(paper(read_question(text), world, values=values), ("no", expected))

    def test_far_beyond_what_can_be_built(self):
        world = path(400, 399)
        values = (("x", 0), ("y", 399))
        # The one thing that is not reached is denied in 399 rounds, with a way to each thing that is shown.
        expected = 0
        for e in range(399):
            shown, claimed = e + 1, min(e + 2, 399)
            expected += claimed + claimed * (claimed - 1) // 2
            expected += (400 - claimed) * (1 + 400 + shown * (shown - 1) // 2)
        self.assertGreater(expected, 10 ** 9)
        self.assertEqual(paper_length(STEPS, world, values), expected)
        check_error(self, TooLong(expected), paper, STEPS, world, values=values)

    def test_wide_worlds_without_a_step(self):
        # One round, in which all tuples but one are denied.
        names = ["%s%d" % (sign, at) for sign in "ab" for at in range(60)]
        question = Question(("walk", names[:60], names[60:], ("before", "a0", "a0"), ["x"] * 60, ["y"] * 60))
        number = 400 ** 60
        self.assertEqual(paper_length(question, World(400), (("x", 0), ("y", 1))), 1 + (number - 1) * (1 + number))
        question = Question(("walk", names[:60], names[60:], ("and", ("before", "a0", "a0"), ("first", "a0")),
                             ["x"] * 60, ["y"] * 60))
        self.assertEqual(paper_length(question, World(400), (("x", 0), ("y", 1))), 1 + (number - 1) * (2 + number))
        self.assertEqual(paper_length(question, World(400), (("x", 1), ("y", 1))), 0)

    def test_nested(self):
        text = "walk [a -> b: not walk [a -> b: edge(a, b)] b -> a] x -> y"
        for size in (2, 3, 4):
            world = path(size)
            for values in samples.all_values(STEPS, world):
                question = read_question(text)
                things = dict(values)
                yes = naive.holds(question.tree, world, things)
                self.assertEqual(paper_length(question, world, values),
                                 len(naive.least(question.tree, yes, world, things)))
        self.assertGreater(paper_length(read_question(text), path(9), (("x", 1), ("y", 0))), 6000)

    def test_deep(self):
        tree = ("walk", ("a",), ("b",), ("next", "a", "b"), ("a",), ("b",))
        for _ in range(17):
            tree = ("not", ("walk", ("a",), ("b",), tree, ("a",), ("b",)))
        tree = ("some", "a", ("some", "b", tree))
        self.assertGreater(paper_length(Question(tree), World(2)), 10)

    def test_random(self):
        chance = random.Random(41)
        told = {"yes": 0, "no": 0}
        for _ in range(400):
            world = samples.some_world(chance, chance.choice((2, 3)))
            question = samples.some_question(chance, chance.choice((2, 3, 3)))
            values = samples.some_values(chance, question, world)
            yes = naive.holds(question.tree, world, dict(values))
            expected = naive.least(question.tree, yes, world, dict(values))
            self.assertEqual(paper_length(question, world, values), len(expected), question.tree)
            told["yes" if yes else "no"] += len(expected) > 2
        self.assertGreater(min(told.values()), 30)

    def test_errors(self):
        samples.check_question_errors(self, paper_length)


if __name__ == "__main__":
    unittest.main()
