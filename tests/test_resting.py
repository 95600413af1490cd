"""Point 44: rests_on."""

import random
import unittest

from onceread.errors import NotRight
from onceread.grammar import is_right
from onceread.meaning import holds
from onceread.papers import paper
from onceread.questions import Question
from onceread.resting import rests_on
from onceread.running import agrees
from onceread.sentences import read_question
from onceread.worlds import World

import naive
import samples
from samples import CHAIN, DOWNWARDS, NO_PAPER, STEPS, UPWARDS, check_error


class RestsOn(unittest.TestCase):
    def check(self, text, side, letters, things, expected, world=CHAIN):
        """expected: facts that stand, and facts that do not, each written as edge01 or mark1."""
        triples = tuple(sorted((fact[:4], tuple(int(thing) for thing in fact[4:]), stands)
                               for stands, facts in zip((True, False), expected) for fact in facts.split()))
        letters = tuple(int(letter) for letter in letters.replace(" ", ""))
        values = tuple(zip("xyz", things))
        with self.subTest(text=text, side=side, letters=letters):
            found = rests_on(read_question(text), side, world, letters, values)
            self.assertEqual(found, triples)
            self.assertIsInstance(found, tuple)
            for name, row, stands in found:
                self.assertIsInstance(row, tuple)
                self.assertIsInstance(stands, bool)

    def test_example(self):
        self.assertEqual(rests_on(STEPS, "no", CHAIN, NO_PAPER, DOWNWARDS),
                         (("edge", (1, 0), False), ("edge", (1, 2), True), ("edge", (2, 0), False)))
        self.assertEqual(rests_on(question=STEPS, side="yes", world=CHAIN, letters=[1, 2], values=[["x", 0], ["y", 2]]),
                         (("edge", (0, 1), True), ("edge", (1, 2), True)))

    def test_words(self):
        self.check("edge(x, y)", "yes", "", (0, 1), ("edge01", ""))
        self.check("edge(x, y)", "no", "", (1, 0), ("", "edge10"))
        self.check("not edge(x, y)", "yes", "", (1, 0), ("", "edge10"))
        self.check("x = y", "yes", "", (1, 1), ("", ""))
        self.check("x < y or next(x, y)", "no", "", (1, 0), ("", ""))
        self.check("edge(x, y) and mark(y)", "yes", "", (0, 1), ("edge01 mark1", ""))
        # Only the half that is claimed is looked at.
        self.check("edge(x, y) and mark(y)", "no", "0", (1, 0), ("", "edge10"))
        self.check("edge(x, y) and mark(y)", "no", "1", (1, 0), ("", "mark0"))
        self.check("edge(x, y) or mark(y)", "yes", "1", (0, 1), ("mark1", ""))
        self.check("edge(x, y) or mark(y)", "no", "", (1, 0), ("", "edge10 mark0"))
        self.check("some z: edge(x, z)", "yes", "2", (1,), ("edge12", ""))
        self.check("some z: edge(x, z)", "no", "", (2,), ("", "edge20 edge21 edge22"))
        self.check("every z: edge(x, z)", "no", "0", (1,), ("", "edge10"))
        self.check("every z: not edge(z, x)", "yes", "", (0,), ("", "edge00 edge10 edge20"))
        self.check("more z: mark(z) than z: edge(x, z)", "yes", "010 000", (2,),
                   ("mark1", "mark0 mark2 edge20 edge21 edge22"))
        self.check("more z: mark(z) than z: edge(x, z)", "no", "010 010", (0,),
                   ("mark1 edge01", "mark0 mark2 edge00 edge02"))
        self.check("walk [a -> b: edge(a, b)] x -> y", "yes", "", (1, 1), ("", ""))
        self.check("walk [a b -> c d: edge(a, c) and next(b, d)] x x -> y y", "yes", "1122", (0, 2), ("edge01 edge12", ""))

    def test_each_once_and_ascending(self):
        question = read_question("(edge(y, x) or mark(x)) or (edge(y, x) or edge(x, x))")
        self.assertEqual(rests_on(question, "no", CHAIN, (), (("x", 0), ("y", 2))), (
            ("edge", (0, 0), False), ("edge", (2, 0), False), ("mark", (0,), False)))

    def test_many_things_without_letters(self):
        tree = ("rel", "edge", ("x", "v5"))
        for at in range(39):
            tree = ("every", "v%d" % at, tree)
        world = World(3, [("edge", 2, [(1, 0), (1, 1), (1, 2)])])
        self.assertEqual(rests_on(Question(tree), "yes", world, (), (("x", 1),)),
                         tuple(("edge", (1, thing), True) for thing in range(3)))
        self.assertEqual(paper(Question(tree), world, values=(("x", 1),)), ("yes", ()))

    def test_other_papers_rest_on_other_facts(self):
        ring = World(3, [("edge", 2, [(0, 1), (1, 2), (0, 2)])])
        self.assertEqual(rests_on(STEPS, "yes", ring, (2,), UPWARDS), (("edge", (0, 2), True),))
        self.assertEqual(rests_on(STEPS, "yes", ring, (1, 2), UPWARDS), (("edge", (0, 1), True), ("edge", (1, 2), True)))

    def test_random(self):
        chance = random.Random(44)
        stand, miss = 0, 0
        for _ in range(400):
            world = samples.some_world(chance, chance.choice((2, 3)))
            question = samples.some_question(chance, chance.choice((2, 3, 3)))
            values = samples.some_values(chance, question, world)
            side, letters = paper(question, world, values=values, limit=10 ** 6)
            found = rests_on(question, side, world, letters, values)
            self.assertEqual(found, tuple(sorted(naive.read(question, side, world, letters, values).looked)))
            stand += any(stands for _, _, stands in found)
            miss += any(not stands for _, _, stands in found)
            # In other worlds that agree with what was looked at, the paper is right, too.
            for _ in range(3):
                other = samples.some_world(chance, world.size)
                for name, row, stands in found:
                    other = other.put(name, row) if stands else other.drop(name, row)
                self.assertTrue(agrees(other, found))
                self.assertTrue(is_right(question, side, other, letters, values))
                self.assertEqual(rests_on(question, side, other, letters, values), found)
                self.assertIs(holds(question, other, values), side == "yes")
        self.assertGreater(min(stand, miss), 50)

    def test_not_right(self):
        for side, letters in (("no", ()), ("no", NO_PAPER[:-1]), ("no", NO_PAPER + (0,)), ("no", (1, 2)), ("yes", NO_PAPER),
                              ("yes", ()), ("yes", (0,)), ("no", (5,))):
            check_error(self, NotRight, rests_on, STEPS, side, CHAIN, letters, DOWNWARDS)
        check_error(self, NotRight, rests_on, STEPS, "no", CHAIN, NO_PAPER, UPWARDS)
        check_error(self, NotRight, rests_on, STEPS, "yes", CHAIN, (1, 2, 0), UPWARDS)

    def test_errors(self):
        # A letter too many: NotRight is due in all these calls, too.
        samples.check_question_errors(
            self, lambda question, world, values, side: rests_on(question, side, world, (7,), values), side=True)


if __name__ == "__main__":
    unittest.main()
