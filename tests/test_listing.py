"""Point 43: right_papers."""

import itertools
import random
import unittest

from onceread.grammar import is_right
from onceread.listing import right_papers
from onceread.papers import paper
from onceread.sentences import read_question
from onceread.worlds import World

import naive
import samples
from samples import CHAIN, DOWNWARDS, NO_PAPER, PAIR, STEPS, UPWARDS

SIDES = ("yes", "no")


class RightPapers(unittest.TestCase):
    def check(self, text, side, world, things, upto, expected):
        """expected: papers as a text."""
        papers = [tuple(int(letter) for letter in letters.strip("- ").replace(" ", "")) for letters in expected.split(",")
                  if letters]
        found = list(right_papers(read_question(text), side, world, values=tuple(zip("xyz", things)), upto=upto))
        self.assertEqual(found, papers)

    def test_order(self):
        # Fewer letters first, then the ascending order.
        self.check("(some z: z < x) or edge(x, y)", "yes", CHAIN, (1, 2), 5, "1,00")
        self.check("(some z: z < x) or (some z: x < z)", "yes", CHAIN, (1,), 5, "00,12")
        self.check("some z: (z = z or z < x)", "yes", CHAIN, (1,), 5, "00,01,10,20")
        self.check("some z: (z = z or z < x)", "yes", CHAIN, (1,), 1, "")

    def test_words(self):
        self.check("edge(x, y)", "yes", CHAIN, (0, 1), 3, "-")
        self.check("edge(x, y)", "no", CHAIN, (0, 1), 3, "")
        self.check("edge(x, y)", "no", CHAIN, (1, 0), 0, "-")
        self.check("not edge(x, y)", "yes", CHAIN, (1, 0), 0, "-")
        self.check("edge(x, y) and x = y", "no", CHAIN, (1, 0), 3, "0,1")
        self.check("edge(x, y) and x = y", "no", CHAIN, (1, 0), 0, "")
        self.check("x < y or edge(x, y)", "yes", CHAIN, (0, 1), 3, "0,1")
        self.check("x < y or edge(x, y)", "yes", CHAIN, (0, 2), 3, "0")
        self.check("every z: edge(x, z)", "no", CHAIN, (0,), 3, "0,2")
        self.check("every z: (x < z or x = z)", "yes", CHAIN, (0,), 3, "100")
        self.check("every z: (x < z or x = z)", "yes", CHAIN, (0,), 2, "")
        self.check("more z: mark(z) than z: (edge(x, z) and z = x)", "yes", CHAIN, (1,), 9,
                   "010000001,010010001")

    def test_walks(self):
        ring = World(3, [("edge", 2, [(0, 1), (1, 0), (1, 2)])])
        self.check("walk [a -> b: edge(a, b)] x -> y", "yes", ring, (0, 2), 7, "12,1012,101012")
        self.check("walk [a -> b: edge(a, b)] x -> y", "yes", ring, (0, 1), 7, "1")
        self.check("walk [a -> b: edge(a, b)] x -> y", "yes", ring, (2, 2), 7, "-")
        self.check("walk [a -> b: edge(a, b)] x -> y", "no", CHAIN, (1, 0), 14, "")
        self.check("walk [a -> b: edge(a, b)] x -> y", "no", CHAIN, (1, 0), 99, "001011200112112")
        self.check("walk [a -> b: edge(a, b)] x -> y", "no", CHAIN, (0, 1), 99, "")
        # Longer ways in later rounds.
        loops = World(3, [("edge", 2, [(1, 2), (1, 1)])])
        found = list(right_papers(STEPS, "no", loops, values=DOWNWARDS, upto=99))
        self.assertEqual(found, [NO_PAPER, NO_PAPER[:14] + (1, 2)])

    def test_each_once(self):
        for question in samples.QUESTIONS[:30]:
            for side in SIDES:
                values = samples.all_values(question, CHAIN)[-1]
                found = list(right_papers(question, side, CHAIN, values=values, upto=9))
                self.assertEqual(len(found), len(set(found)))
                self.assertEqual(found, naive.in_order(found))

    def test_no_other_row(self):
        for world in (PAIR, samples.LOOSE):
            for question in samples.QUESTIONS + samples.WIDE:
                for values in samples.all_values(question, world):
                    for side in SIDES:
                        expected = [letters for letters in samples.all_letters(2, 5)
                                    if naive.is_right(question, side, world, letters, values)]
                        found = list(right_papers(question, side, world, values=values, upto=5))
                        self.assertEqual(found, expected, (question.tree, side, values))

    def test_random(self):
        chance = random.Random(43)
        many, told = 0, {"yes": 0, "no": 0}
        for _ in range(500):
            world = samples.some_world(chance, chance.choice((2, 2, 3)))
            question = samples.some_question(chance, chance.choice((1, 2, 2, 3)))
            values = samples.some_values(chance, question, world)
            right, letters = paper(question, world, values=values, limit=10 ** 6)
            for side in SIDES:
                upto = min(len(letters) + chance.randrange(3), 11)
                expected = naive.right_papers(question, side, world, values, upto)
                found = list(itertools.islice(right_papers(question, side, world, values=values, upto=upto), 2000))
                self.assertEqual(found, expected[:2000], (question.tree, side, values, upto))
                many += len(found) > 1
                told[side] += bool(found)
        self.assertGreater(many, 80)
        self.assertGreater(min(told.values()), 80)

    def test_walks_of_several_lengths(self):
        # The no of a walk whose ways may be longer, at the bounds of the letters and of the steps.
        chance = random.Random(44)
        several = 0
        for _ in range(200):
            world = samples.some_world(chance, 3)
            values = samples.some_values(chance, STEPS, world)
            side, letters = paper(STEPS, world, values=values)
            expected = naive.right_papers(STEPS, side, world, values, len(letters) + 3)
            self.assertEqual(list(right_papers(STEPS, side, world, values=values, upto=len(letters) + 3)), expected)
            several += side == "no" and len(expected) > 1
        self.assertGreater(several, 5)

    def test_is_a_generator(self):
        ring = World(3, [("edge", 2, [(0, 1), (1, 0), (1, 2)])])
        found = right_papers(STEPS, "yes", ring, values=UPWARDS, upto=4)
        self.assertIs(iter(found), found)
        self.assertEqual(next(found), (1, 2))
        self.assertEqual(next(found), (1, 0, 1, 2))
        self.assertRaises(StopIteration, next, found)
        # The first ones, however many there are.
        found = right_papers(read_question("some a: some b: some c: some d: a = a"), "yes", World(400), upto=10 ** 6)
        self.assertEqual(list(itertools.islice(found, 401))[-1], (0, 0, 1, 0))
        found = right_papers(STEPS, "yes", ring, values=UPWARDS, upto=10 ** 4)
        self.assertEqual([len(letters) for letters in itertools.islice(found, 40)], list(range(2, 82, 2)))

    def test_least_first(self):
        for question in samples.QUESTIONS:
            for world in (PAIR, CHAIN):
                values = samples.all_values(question, world)[0]
                side, letters = paper(question, world, values=values)
                self.assertEqual(next(right_papers(question, side, world, values=values, upto=len(letters))), letters)
                if letters:
                    self.assertEqual(list(right_papers(question, side, world, values=values, upto=len(letters) - 1)), [])

    def test_deep(self):
        tree = ("some", "v", ("same", "v", "v"))
        for _ in range(38):
            tree = ("and", ("first", "x"), tree)
        question = samples.Question(tree)
        found = list(right_papers(question, "yes", PAIR, values=(("x", 0),), upto=3))
        self.assertEqual(found, [(0,), (1,)])
        found = right_papers(question, "no", PAIR, values=(("x", 1),), upto=99)
        self.assertEqual(list(itertools.islice(found, 2)), [(0,), (1, 0)])
        for letters in right_papers(question, "no", PAIR, values=(("x", 1),), upto=99):
            self.assertTrue(is_right(question, "no", PAIR, letters, (("x", 1),)))

    def test_many_things_without_letters(self):
        tree = ("rel", "edge", ("x", "v5"))
        for at in range(38):
            tree = ("every", "v%d" % at, tree)
        world = World(3, [("edge", 2, [(1, 0), (1, 1), (1, 2)])])
        question = samples.Question(("or", tree, tree))
        self.assertEqual(list(right_papers(question, "yes", world, values=(("x", 1),), upto=5)), [(0,), (1,)])

    def test_errors_at_the_first_item(self):
        def first(question, side, world, values, upto):
            made = right_papers(question, side, world, values=values, upto=upto)
            return next(made)

        for upto in (0, 5):
            samples.check_question_errors(
                self, lambda question, world, values, side: first(question, side, world, values, upto), side=True)
        right_papers(question=STEPS, side="?", world=World(2), values=None, upto=0)
        self.assertRaises(TypeError, right_papers, STEPS, "yes", CHAIN, UPWARDS, upto=3)
        self.assertRaises(TypeError, right_papers, STEPS, "yes", CHAIN, values=UPWARDS)


if __name__ == "__main__":
    unittest.main()
