"""Point 21: the layers of walks."""

import itertools
import random
import unittest

from onceread.errors import BadValues, NoSuchRelation, NotAWalk, Unvalued
from onceread.layering import layers
from onceread.meaning import holds
from onceread.questions import Question
from onceread.sentences import read_question
from onceread.worlds import World

PLAIN = read_question("walk [a -> b: edge(a, b)] x -> y")


def things(**values):
    return list(values.items())


class Layers(unittest.TestCase):
    def test_width_one(self):
        world = World(6, [("edge", 2, [(0, 4), (0, 2), (2, 1), (4, 1), (4, 2), (1, 3), (3, 0)])])
        self.assertEqual(layers(PLAIN, world, things(x=0, y=5)), (((0,),), ((2,), (4,)), ((1,),), ((3,),)))
        self.assertEqual(layers(PLAIN, world, things(x=3, y=3)), (((3,),), ((0,),), ((2,), (4,)), ((1,),)))

    def test_only_layer_zero(self):
        world = World(3, [("edge", 2, [(0, 0), (1, 0)])])
        self.assertEqual(layers(PLAIN, world, things(x=0, y=1)), (((0,),),))
        self.assertEqual(layers(PLAIN, world, things(x=2, y=2)), (((2,),),))
        self.assertEqual(layers(PLAIN, world.drop("edge", (0, 0)), things(x=0, y=0)), (((0,),),))

    def test_goal_does_not_matter(self):
        world = World(4, [("edge", 2, [(0, 1), (1, 2), (2, 3), (1, 0)])])
        for goal in range(4):
            self.assertEqual(layers(PLAIN, world, things(x=0, y=goal)), (((0,),), ((1,),), ((2,),), ((3,),)))

    def test_width_two(self):
        world = World(3, [("edge", 2, [(0, 1), (0, 2), (1, 2)])])
        question = read_question("walk [a b -> c d: edge(a, c) and b = d or a = c and edge(b, d)] x y -> z z")
        self.assertEqual(layers(question, world, things(x=0, y=0, z=0)), (
            ((0, 0),), ((0, 1), (0, 2), (1, 0), (2, 0)), ((1, 1), (1, 2), (2, 1), (2, 2))))
        self.assertEqual(layers(question, world, things(x=1, y=2, z=0)), (((1, 2),), ((2, 2),)))

    def test_width_three(self):
        question = read_question("walk [a b c -> d e f: a = e and b = f and c = d] x y x -> x x x")
        self.assertEqual(layers(question, World(2), things(x=0, y=1)), (((0, 1, 0),), ((0, 0, 1),), ((1, 0, 0),)))

    def test_step_with_free_variables(self):
        world = World(4, [("edge", 2, [(0, 1), (1, 2), (2, 3)])])
        question = read_question("walk [a -> b: edge(a, b) and not b = z] x -> y")
        self.assertEqual(layers(question, world, things(x=0, y=0, z=2)), (((0,),), ((1,),)))
        self.assertEqual(layers(question, world, things(x=0, y=0, z=0)), (((0,),), ((1,),), ((2,),), ((3,),)))

    def test_variables_of_the_walk_outside(self):
        world = World(3, [("edge", 2, [(0, 1), (1, 2)])])
        question = read_question("walk [a -> b: edge(a, b)] b -> a")
        self.assertEqual(layers(question, world, things(a=0, b=1)), (((1,),), ((2,),)))

    def test_shape(self):
        found = layers(question=PLAIN, world=World(2, [("edge", 2, [(0, 1)])]), values=[["x", 0], ["y", 0]])
        self.assertEqual(found, (((0,),), ((1,),)))
        self.assertIsInstance(found, tuple)
        for layer in found:
            self.assertIsInstance(layer, tuple)
            for row in layer:
                self.assertIsInstance(row, tuple)

    def test_random_walks(self):
        chance = random.Random(23)
        texts = ("edge(a, c) and (b = d or edge(d, b))", "edge(a, d) and edge(c, b)", "edge(a, c) or edge(b, d) and a = c",
                 "some a: (edge(a, c) and edge(b, d))", "walk [a -> b: edge(a, b)] a -> d and edge(c, a)")
        for _ in range(80):
            size = chance.choice((2, 3))
            world = World(size, [("edge", 2, [row for row in itertools.product(range(size), repeat=2)
                                              if chance.random() < 0.4])])
            step = read_question(chance.choice(texts))
            question = Question(("walk", ("a", "b"), ("c", "d"), step.tree, ("x", "y"), ("y", "x")))
            rows = list(itertools.product(range(size), repeat=2))
            start = chance.choice(rows)
            expected, met = [[start]], [start]
            while expected[-1]:
                expected.append([after for after in rows if after not in met and any(
                    holds(step, world, list(zip("abcd", here + after))) for here in expected[-1])])
                met += expected[-1]
            expected = tuple(tuple(layer) for layer in expected[:-1])
            self.assertEqual(layers(question, world, things(x=start[0], y=start[1])), expected)


class Errors(unittest.TestCase):
    WORLD = World(3, [("edge", 2, [(0, 1)])])

    def test_not_a_walk_comes_first(self):
        for text in ("link(x, y)", "not walk [a -> b: edge(a, b)] x -> y", "some x: walk [a -> b: edge(a, b)] x -> y",
                     "walk [a -> b: edge(a, b)] x -> y and x = y", "first(x)"):
            for values in ((), None, [("x", 9)], [("x", 0), ("y", 0)]):
                self.assertRaises(NotAWalk, layers, read_question(text), self.WORLD, values)

    def test_no_such_relation(self):
        for text, name in (("walk [a -> b: link(a, b)] x -> y", "link"), ("walk [a -> b: edge(a)] x -> y", "edge")):
            for values in ((), None, [("x", 9)], [("x", 0), ("y", 0)]):
                with self.assertRaises(NoSuchRelation) as caught:
                    layers(read_question(text), self.WORLD, values)
                self.assertEqual(caught.exception.name, name)

    def test_bad_values(self):
        for values in (None, 5, "x", [("x", 3)], [("x", True), ("y", 0)], [("x", 0), ("y", 0), ("x", 0)], [("x",)],
                       [("x", 0), ("y", 0), ("z", 3)]):
            self.assertRaises(BadValues, layers, PLAIN, self.WORLD, values)

    def test_unvalued(self):
        for values, name in (((), "x"), ([("x", 0)], "y"), ([("y", 0)], "x")):
            with self.assertRaises(Unvalued) as caught:
                layers(PLAIN, self.WORLD, values)
            self.assertEqual(caught.exception.variable, name)


if __name__ == "__main__":
    unittest.main()
