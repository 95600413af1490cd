"""Point 42: cheapest_way."""

import random
import unittest

from onceread.errors import NotAWalk
from onceread.lengths import paper_length
from onceread.papers import paper
from onceread.sentences import read_question
from onceread.ways import cheapest_way
from onceread.worlds import World

import naive
import samples
from samples import CHAIN, DOWNWARDS, STEPS, UPWARDS, check_error


class CheapestWay(unittest.TestCase):
    def check(self, text, world, things, ways):
        """ways: for each bound the letters of the way, or None."""
        question = read_question(text) if isinstance(text, str) else text
        for most, letters in ways.items():
            expected = None if letters is None else tuple(int(letter) for letter in letters.replace(" ", ""))
            with self.subTest(text=text, most=most):
                found = cheapest_way(question, world, values=tuple(zip("xyz", things)), most=most)
                self.assertEqual(found, expected)
                if found is not None:
                    self.assertIsInstance(found, tuple)

    def test_example(self):
        self.check(STEPS, CHAIN, (0, 2), {None: "12", 2: "12", 3: "12", 10 ** 12: "12", 1: None, 0: None})
        self.assertEqual(cheapest_way(STEPS, CHAIN, values=UPWARDS), (1, 2))
        self.assertEqual(cheapest_way(question=STEPS, world=CHAIN, values=[["y", 2], ["z", 0], ["x", 0]], most=2), (1, 2))

    def test_no_way(self):
        self.check(STEPS, CHAIN, (1, 0), {None: None, 0: None, 1: None, 7: None, 10 ** 12: None})
        self.assertIsNone(cheapest_way(STEPS, CHAIN, values=DOWNWARDS))
        self.check(STEPS, samples.LOOSE, (0, 1), {None: None, 5: None})

    def test_start_is_goal(self):
        for things in ((0, 0), (1, 1), (2, 2)):
            self.check(STEPS, CHAIN, things, {None: "", 0: "", 1: "", 5: ""})
        # Also where a step leads from it to itself.
        self.check(STEPS, World(2, [("edge", 2, [(0, 0), (0, 1), (1, 0)])]), (0, 0), {None: "", 0: "", 3: ""})

    def test_fewer_letters_before_fewer_steps(self):
        text = "walk [a -> b: edge(a, b) or (first(a) and last(b) and every c: (c = c or c = c))] x -> y"
        self.check(text, CHAIN, (0, 2), {None: "1020", 0: None, 1: "21000", 2: "1020", 3: "1020"})

    def test_as_many_letters(self):
        # With two steps, a way that comes first has as many letters as the one with one step.
        text = "walk [a -> b: edge(a, b) or (last(a) and next(b, a) and some c: some d: c = d)] x -> y"
        world = World(4, [("edge", 2, [(3, 0), (0, 2)])])
        self.check(text, world, (3, 2), {0: None, 1: "2100", 2: "0020", None: "0020"})
        # Here it comes behind it.
        world = World(4, [("edge", 2, [(1, 3), (3, 0)])])
        text = "walk [a -> b: edge(a, b) or (next(b, a) and first(b) and some c: some d: c = d)] x -> y"
        self.check(text, world, (1, 0), {1: "0100", 2: "0100", None: "0100"})

    def test_ascending(self):
        world = World(4, [("edge", 2, [(0, 2), (0, 1), (2, 3), (1, 3)])])
        self.check(STEPS, world, (0, 3), {None: "13", 2: "13", 1: None})
        # The letters of the step come behind the next thing.
        text = "walk [a -> b: some c: (edge(a, c) and edge(c, b))] x -> y"
        world = World(4, [("edge", 2, [(0, 2), (0, 1), (2, 3), (1, 3)])])
        self.check(text, world, (0, 3), {None: "31", 1: "31", 0: None})

    def test_longer_and_longer_ways(self):
        # The more steps there may be, the fewer letters are needed.
        text = ("walk [a -> b: edge(a, b) or (next(a, b) and last(b) and every c: (c = c or c = c)) "
                "or (first(a) and last(b) and every c: every d: (c = c or c = c))] x -> y")
        world = World(4, [("edge", 2, [(0, 1), (1, 2), (2, 0), (1, 0)])])
        question = read_question(text)
        lengths = [cheapest_way(question, world, values=(("x", 0), ("y", 3)), most=most) for most in range(6)]
        self.assertIsNone(lengths[0])
        self.assertEqual([len(letters) for letters in lengths[1:]], [18, 18, 13, 13, 13])
        for most in range(6):
            expected = naive.least_ways(question.tree, world, {"x": 0, "y": 3}, most).get((3,))
            self.assertEqual(lengths[most], expected)

    def test_wide(self):
        text = "walk [a b -> c d: (a = c and edge(b, d)) or (b = d and edge(a, c))] x x -> y y"
        self.check(text, CHAIN, (0, 1), {None: "010111".replace(" ", ""), 1: None, 2: "010111"})
        self.check("walk [a b -> c d: edge(a, c) and edge(b, d)] x y -> y z", CHAIN, (0, 1, 2), {None: "12", 1: "12", 0: None})

    def test_large(self):
        world = World(400, [("edge", 2, [(thing, thing + 1) for thing in range(399)])])
        values = (("x", 0), ("y", 399))
        self.assertEqual(cheapest_way(STEPS, world, values=values), tuple(range(1, 400)))
        self.assertEqual(cheapest_way(STEPS, world, values=values, most=399), tuple(range(1, 400)))
        self.assertIsNone(cheapest_way(STEPS, world, values=values, most=398))

    def test_like_paper(self):
        for question in samples.QUESTIONS + samples.WIDE:
            if question.tree[0] != "walk":
                continue
            for world in (samples.PAIR, samples.LOOSE, CHAIN):
                for values in samples.all_values(question, world):
                    found = cheapest_way(question, world, values=values)
                    if found is None:
                        self.assertFalse(naive.holds(question.tree, world, dict(values)))
                    else:
                        self.assertEqual(paper(question, world, values=values), ("yes", found))
                        self.assertEqual(paper_length(question, world, values), len(found))

    def test_random(self):
        chance = random.Random(42)
        found = 0
        for _ in range(1500):
            question = samples.some_question(chance, chance.choice((2, 2, 3)))
            if question.tree[0] != "walk":
                continue
            world = samples.some_world(chance, 3 if len(question.tree[1]) == 1 else 2)
            values = samples.some_values(chance, question, world)
            goal = tuple(dict(values)[name] for name in question.tree[5])
            for most in (0, 1, 2, 3, None):
                bound = 9 if most is None else most
                expected = naive.least_ways(question.tree, world, dict(values), bound).get(goal)
                self.assertEqual(cheapest_way(question, world, values=values, most=most), expected, question.tree)
                found += bool(expected)
        self.assertGreater(found, 200)

    def test_errors(self):
        samples.check_question_errors(
            self, lambda question, world, values: cheapest_way(question, world, values=values), walk=True)
        samples.check_question_errors(
            self, lambda question, world, values: cheapest_way(question, world, values=values, most=0), walk=True)
        check_error(self, NotAWalk, cheapest_way, ~STEPS, CHAIN, values=UPWARDS)
        self.assertRaises(TypeError, cheapest_way, STEPS, CHAIN, UPWARDS)


if __name__ == "__main__":
    unittest.main()
