"""Point 37: rounds_told."""

import random
import unittest

from onceread.errors import NotAWalk, NotRight
from onceread.layering import layers
from onceread.papers import paper
from onceread.rounds import rounds_told
from onceread.sentences import read_question
from onceread.worlds import World

import naive
import samples
from samples import CHAIN, DOWNWARDS, NO_PAPER, STEPS, UPWARDS, check_error


class RoundsTold(unittest.TestCase):
    def test_example(self):
        expected = ((0, 1, ((1,), (2,))), (1, 2, ((1,), (2,))))
        for letters in (NO_PAPER, list(NO_PAPER)):
            found = rounds_told(STEPS, CHAIN, letters, DOWNWARDS)
            self.assertEqual(found, expected)
            self.assertIsInstance(found, tuple)
            for triple in found:
                self.assertIsInstance(triple, tuple)
                self.assertIsInstance(triple[2], tuple)
        self.assertEqual(rounds_told(question=STEPS, world=CHAIN, letters=NO_PAPER, values=[["y", 0], ["x", 1]]), expected)

    def test_one_round(self):
        self.assertEqual(rounds_told(STEPS, CHAIN, (0, 0, 0, 1, 0, 0, 0, 1, 1), (("x", 2), ("y", 0))), ((0, 1, ((2,),)),))
        self.assertEqual(rounds_told(STEPS, samples.LOOSE, (1, 0, 1, 0), (("x", 0), ("y", 1))), ((0, 1, ((0,),)),))

    def test_three_rounds(self):
        world = World(4, [("edge", 2, [(3, 1), (1, 2), (2, 3)])])
        values = (("x", 3), ("y", 0))
        _, letters = paper(STEPS, world, values=values)
        self.assertEqual(rounds_told(STEPS, world, letters, values), (
            (0, 1, ((1,), (3,))), (1, 2, ((1,), (2,), (3,))), (2, 3, ((1,), (2,), (3,)))))

    def test_wide(self):
        question = read_question("walk [a b -> c d: next(b, d) and a = c] x x -> y x")
        values = (("x", 0), ("y", 1))
        _, letters = paper(question, World(3), values=values)
        one, two, three = (0, 0), (0, 1), (0, 2)
        self.assertEqual(rounds_told(question, World(3), letters, values), (
            (0, 1, (one, two)), (1, 2, (one, two, three)), (2, 3, (one, two, three))))

    def test_rounds_of_the_outer_walk(self):
        # The papers for its steps have rounds of their own.
        question = read_question("walk [a -> b: next(a, b) and not walk [a -> b: edge(a, b)] b -> a] x -> y")
        values = (("x", 1), ("y", 0))
        _, letters = paper(question, CHAIN, values=values)
        self.assertEqual(rounds_told(question, CHAIN, letters, values), ((0, 1, ((1,), (2,))), (1, 2, ((1,), (2,)))))

    def test_layers(self):
        chance = random.Random(37)
        told = 0
        for _ in range(300):
            question = samples.some_question(chance, 3)
            world = samples.some_world(chance, chance.choice((2, 3)))
            values = samples.some_values(chance, question, world)
            if question.tree[0] != "walk" or naive.holds(question.tree, world, dict(values)):
                continue
            _, letters = paper(question, world, values=values, limit=10 ** 9)
            found = rounds_told(question, world, letters, values)
            self.assertEqual(found, naive.read(question, "no", world, letters, values).rounds)
            near = layers(question, world, values)
            self.assertEqual([claimed for _, _, claimed in found], [
                tuple(sorted(row for layer in near[:e + 2] for row in layer)) for e in range(len(near))])
            told += 1
        self.assertGreater(told, 20)

    def test_not_right(self):
        for letters in ((), NO_PAPER[:-1], NO_PAPER + (0,), (1, 2), (2,), (-1,), (0, 0, 1, 0, 1, 1, 2)):
            check_error(self, NotRight, rounds_told, STEPS, CHAIN, letters, DOWNWARDS)
            # No paper is right for the no where the walk leads to the goal.
            check_error(self, NotRight, rounds_told, STEPS, CHAIN, letters, UPWARDS)
        check_error(self, NotRight, rounds_told, STEPS, CHAIN, NO_PAPER, (("x", 1), ("y", 1)))

    def test_errors(self):
        # The empty paper is never right for the no of a walk: NotRight is due in all these calls, too.
        samples.check_question_errors(
            self, lambda question, world, values: rounds_told(question, world, (), values), walk=True)
        check_error(self, NotAWalk, rounds_told, read_question("not walk [a -> b: edge(a, b)] x -> y"), CHAIN, NO_PAPER,
                    DOWNWARDS)


if __name__ == "__main__":
    unittest.main()
