"""Points 33 to 36: right papers."""

import random
import unittest

from onceread.asking import judge_of
from onceread.grammar import is_right
from onceread.meaning import holds
from onceread.papers import paper
from onceread.questions import Question
from onceread.running import verdict
from onceread.sentences import read_question
from onceread.worlds import World

import naive
import samples
from samples import CHAIN, DOWNWARDS, NO_PAPER, PAIR, STEPS, UPWARDS

ORDERED = World(3, [("edge", 2, [(0, 1), (1, 2)]), ("mark", 1, [(1,), (2,)])])


class Words(unittest.TestCase):
    def check(self, text, side, world, things, right, wrong):
        """right and wrong are papers written as texts of letters."""
        question = read_question(text)
        values = tuple(zip("xyz", things))
        for papers, expected in ((right, True), (wrong, False)):
            for paper in papers.split(","):
                letters = tuple(int(letter) for letter in paper.strip().replace("-", ""))
                with self.subTest(text=text, side=side, letters=letters):
                    self.assertIs(is_right(question, side, world, letters, values), expected)
                    self.assertIs(is_right(question, side, world, list(letters), [list(pair) for pair in values]),
                                  expected)

    def check_other(self, text, side, world, things):
        """No paper is right for this side."""
        question = read_question(text)
        for letters in samples.all_letters(world.size, 4):
            self.assertFalse(is_right(question, side, world, letters, tuple(zip("xyz", things))))

    def test_atoms(self):
        for text, yes, no in (("edge(x, y)", (0, 1), (1, 0)), ("edge(x, x)", None, (1,)), ("x = y", (1, 1), (1, 2)),
                              ("x < y", (0, 2), (1, 1)), ("x < y", (1, 2), (2, 0)), ("next(x, y)", (1, 2), (0, 2)),
                              ("next(x, y)", (0, 1), (2, 0)), ("first(x)", (0,), (1,)), ("last(x)", (2,), (1,))):
            for things, side, other in ((yes, "yes", "no"), (no, "no", "yes")):
                if things is not None:
                    self.check(text, side, CHAIN, things, "-", "0, 1, 2, 00")
                    self.check_other(text, other, CHAIN, things)
        three = World(2, [("tri", 3, [(0, 1, 1)])])
        self.check("tri(x, y, y)", "yes", three, (0, 1), "-", "0, 1")
        self.check("tri(y, x, x)", "no", three, (0, 1), "-", "0, 1")

    def test_not(self):
        self.check("not edge(x, y)", "yes", CHAIN, (1, 0), "-", "0")
        self.check("not edge(x, y)", "no", CHAIN, (1, 2), "-", "0")
        self.check_other("not edge(x, y)", "no", CHAIN, (1, 0))
        self.check("not not edge(x, y)", "yes", CHAIN, (0, 1), "-", "0, 1")
        self.check("not (x = y and x < y)", "yes", CHAIN, (1, 1), "1", "-, 0, 2, 11, 10")

    def test_and(self):
        self.check("edge(x, y) and x < y", "yes", CHAIN, (0, 1), "-", "0, 1, 01")
        self.check("edge(x, y) and x < y", "no", CHAIN, (0, 2), "0", "-, 1, 2, 00, 01")
        self.check("edge(x, y) and x < y", "no", CHAIN, (2, 1), "0, 1", "-, 2, 00, 11")
        self.check("(some z: edge(x, z)) and (some z: edge(y, z))", "yes", CHAIN, (0, 1), "12", "-, 1, 21, 2, 120, 11")

    def test_or(self):
        self.check("edge(x, y) or x < y", "yes", CHAIN, (0, 2), "1", "-, 0, 2, 11")
        self.check("edge(x, y) or x < y", "yes", CHAIN, (0, 1), "0, 1", "-, 2, 01")
        self.check("edge(x, y) or x < y", "no", CHAIN, (2, 1), "-", "0, 1")
        self.check("(every z: edge(x, z)) or (every z: edge(y, z))", "no", CHAIN, (0, 1),
                   "00, 01, 20, 21", "-, 0, 12, 10, 02, 000")
        self.check("(some z: edge(x, z)) or (some z: edge(y, z))", "yes", CHAIN, (0, 1), "01, 12", "1, 02, 11, 010, -")

    def test_some(self):
        self.check("some z: edge(x, z)", "yes", CHAIN, (1,), "2", "-, 0, 1, 22, 20")
        self.check("some z: x < z", "yes", CHAIN, (0,), "1, 2", "0, -, 11")
        self.check("some z: edge(x, z)", "no", CHAIN, (2,), "-", "0, 1, 2")
        self.check("some z: (edge(x, z) and x = z)", "no", CHAIN, (0,), "010, 011",
                   "-, 00, 01, 000, 001, 110, 020, 0100, 100")

    def test_every(self):
        self.check("every z: edge(x, z)", "no", CHAIN, (1,), "0, 1", "-, 2, 00, 3")
        self.check("every z: not edge(x, z)", "yes", CHAIN, (2,), "-", "0, 2")
        self.check("every z: (x < z or z < y)", "yes", CHAIN, (1, 2), "110", "-, 111, 000, 100, 11, 1100, 112, 010")

    def test_more(self):
        # One thing has an edge from 0, and no thing one from 2.
        self.check("more z: edge(x, z) than z: edge(y, z)", "yes", CHAIN, (0, 2), "010000", "-, 01000, 010001, 0100000, 020000")
        self.check("more z: edge(x, z) than z: edge(y, z)", "no", CHAIN, (2, 0), "000010", "-, 010000, 000000, 00001, 0000100")
        # As many are not more.
        self.check("more z: edge(x, z) than z: edge(y, z)", "no", CHAIN, (0, 1), "010001", "010000, 000001, 000000, 01000")
        self.check_other("more z: edge(x, z) than z: edge(y, z)", "yes", CHAIN, (0, 1))
        # What stands behind a claim: the yes for 1, the no for 0.
        text = "more z: (z = x or z = y) than z: (edge(x, z) and edge(z, y))"
        self.check(text, "yes", PAIR, (0, 1), "10110001", "-, 10110000, 11110001, 1011000, 101100011, 00110001")
        self.check("more z: (z = x or z = x) than z: (z < x and z < x)", "yes", CHAIN, (0,),
                   "1000 000000, 1100 010100, 1100 000101".replace(" ", ""), "1000 00000, 1200 000000".replace(" ", ""))
        # The same variable for both counts, and a variable that is bound again.
        self.check("more x: mark(x) than x: last(x)", "yes", ORDERED, (0,), "011001", "111001, 011000, 01100, 0110010")

    def test_walk_yes(self):
        self.check("walk [a -> b: edge(a, b)] x -> y", "yes", CHAIN, (0, 2), "12", "-, 1, 2, 120, 22, 112, 13")
        self.check("walk [a -> b: edge(a, b)] x -> y", "yes", CHAIN, (1, 1), "-", "0, 1, 2, 21")
        self.check("walk [a -> b: a = b or edge(a, b)] x -> y", "yes", CHAIN, (0, 1),
                   "11, 0011, 000011", "10, 0111, 1, 1101, 11 00".replace(" ", ""))
        # The way ends where it comes to the goal for the first time.
        ring = World(3, [("edge", 2, [(0, 1), (1, 0), (1, 2)])])
        self.check("walk [a -> b: edge(a, b)] x -> y", "yes", ring, (0, 1), "1", "101, 121, -")
        self.check("walk [a -> b: edge(a, b)] x -> y", "yes", ring, (0, 2), "12, 1012, 101012", "012, 10, 1021")

    def test_wide_walk_yes(self):
        text = "walk [a b -> c d: (a = c and edge(b, d)) or (b = d and edge(a, c))] x x -> y z"
        self.check(text, "yes", CHAIN, (0, 1, 1), "010111, 101110", "0101, 010110, 01011, 010101, 101111, 0001010111")
        # A variable may stand twice in the goal, and the same one in start and goal.
        self.check("walk [a b -> c d: edge(a, c) and b = d] x y -> y y", "yes", CHAIN, (0, 1), "11", "-, 1, 10, 01")
        self.check("walk [a b -> c d: edge(a, c) and b = d] x y -> x y", "yes", CHAIN, (0, 1), "-", "11")

    def test_within_one_another(self):
        # The step of a walk is the no of a walk.
        text = "walk [a -> b: not walk [c -> d: edge(c, d)] a -> b] x -> y"
        self.check(text, "yes", PAIR, (1, 0), "00011", "0, 00, 01, 00101, 0001, 000111, 10011")
        self.check("not walk [a -> b: not walk [c -> d: edge(c, d)] a -> b] x -> y", "yes", PAIR, (0, 1),
                   "10110", "10101, 1011, 101100, 10100, 11110, 0")
        # A variable that is bound again within its own binding.
        self.check("some x: (mark(x) and some x: first(x))", "yes", CHAIN, (), "10", "-, 1, 01, 11, 00")
        self.check("walk [x -> y: edge(x, y)] y -> x", "yes", CHAIN, (1, 0), "1", "0, -")


class NoOfAWalk(unittest.TestCase):
    """Point 35, with papers that are damaged in all the ways that it tells."""

    def check(self, letters, expected, question=STEPS, world=CHAIN, values=DOWNWARDS):
        with self.subTest(letters=letters):
            letters = tuple(int(letter) for letter in letters.replace(" ", "").replace(",", ""))
            self.assertIs(is_right(question, "no", world, letters, values), expected)
            self.assertIs(naive.is_right(question, "no", world, letters, values), expected)
            # The judge of the question has to see all this, too.
            given = [dict(values)[name] for name in question.free]
            self.assertEqual(verdict(judge_of(question, "no"), world, letters, given), "taken" if expected else "refused")

    def test_example(self):
        self.assertTrue(is_right(STEPS, "no", CHAIN, NO_PAPER, DOWNWARDS))
        self.assertFalse(is_right(STEPS, "yes", CHAIN, NO_PAPER, DOWNWARDS))
        self.assertFalse(is_right(STEPS, "no", CHAIN, NO_PAPER, UPWARDS))
        self.assertFalse(is_right(~STEPS, "no", CHAIN, NO_PAPER, DOWNWARDS))
        self.assertTrue(is_right(~STEPS, "yes", CHAIN, NO_PAPER, DOWNWARDS))
        self.assertTrue(is_right(STEPS, "yes", CHAIN, (1, 2), UPWARDS))

    def test_each_beginning_and_each_addition(self):
        for at in range(len(NO_PAPER)):
            self.assertFalse(is_right(STEPS, "no", CHAIN, NO_PAPER[:at], DOWNWARDS))
        for letter in (0, 1, 2, -1, 3):
            self.assertFalse(is_right(STEPS, "no", CHAIN, NO_PAPER + (letter,), DOWNWARDS))

    def test_each_other_letter(self):
        for at in range(len(NO_PAPER)):
            for letter in (-1, 0, 1, 2, 3, 400):
                other = NO_PAPER[:at] + (letter,) + NO_PAPER[at + 1:]
                self.assertIs(is_right(STEPS, "no", CHAIN, other, DOWNWARDS), letter == NO_PAPER[at])

    def test_one_round(self):
        # Nothing is reached from 2 but itself.
        values = (("x", 2), ("y", 0))
        self.check("0 001, 0 001, 1", True, values=values)
        self.check("0 001, 0 001", False, values=values)
        self.check("0 001, 0 001, 0 001", False, values=values)
        self.check("0 001, 0 001, 1, 0 001, 0 001, 1", False, values=values)
        # Without any step.
        self.check("1, 0 1 0", True, world=samples.LOOSE, values=(("x", 0), ("y", 1)))

    def test_three_rounds(self):
        world = World(4, [("edge", 2, [(3, 1), (1, 2), (2, 3)])])
        values = (("x", 3), ("y", 0))
        first = "0 0001, 1 1, 0 0001, 1"
        second = "0 0 11 0 1, 1 1, 1 12, 1"
        third = "0 0 11 112 1, 1 1, 1 12, 1"
        self.check(first + second + third, True, world=world, values=values)
        self.check(first + second, False, world=world, values=values)
        self.check(first + second + third + third, False, world=world, values=values)
        self.check(first + third, False, world=world, values=values)
        # In the second round thing 2 is claimed with a way of two steps, in the first one it must not be.
        self.check("0 0001, 1 1, 1 12, 1" + second + third, False, world=world, values=values)

    def test_counts(self):
        # Too small: the one thing within no steps is not shown.
        self.check("0 000, 1, 12, 0 0112, 1, 12", False)
        # Too great: things are shown that are not within so few steps.
        self.check("0 0 1 12, 1, 12, 0 0112, 1, 12", False)
        self.check("0 1 1 0, 1, 12, 0 0112, 1, 12", False)
        # Too small in the second round.
        self.check("0 010, 1, 12, 0 0 1 0, 1, 12", False)
        self.check("0 010, 1, 12, 0 0 0 12, 1, 12", False)
        # A thing that can be claimed is not claimed in the second round.
        self.check("0 010, 1, 12, 0 0112, 1, 0 0 1 0", False)
        self.check("0 010, 1, 12, 0 0112, 0 0 0 12, 12", False)

    def test_claimed_goal(self):
        self.check("1 0, 1, 12", False)
        self.check("1, 1, 12", False)
        # It fails although there is a way to it, and all else is right.
        loop = World(3, [("edge", 2, [(0, 1)])])
        self.check("1, 11, 0 100, 1, 11, 0 1 11 0", False, world=loop, values=(("x", 0), ("y", 1)))
        self.check("1, 11, 0 100, 1, 11, 0 1 11 0", True, world=loop, values=(("x", 0), ("y", 2)))
        self.check("12, 1, 0 0 0 1 2", False, values=UPWARDS)
        for letters in samples.all_letters(2, 9):
            self.assertFalse(is_right(STEPS, "no", PAIR, letters, (("x", 0), ("y", 1))))

    def test_start_is_goal(self):
        for world in (CHAIN, PAIR, samples.LOOSE):
            for letters in samples.all_letters(2, 7):
                self.assertFalse(is_right(STEPS, "no", world, letters, (("x", 1), ("y", 1))))
        self.assertFalse(is_right(STEPS, "no", CHAIN, NO_PAPER, (("x", 1), ("y", 1))))
        self.assertFalse(is_right(STEPS, "no", CHAIN, NO_PAPER, (("x", 0), ("y", 0))))

    def test_ways_that_are_too_long(self):
        ring = World(3, [("edge", 2, [(1, 2), (2, 1), (1, 1), (2, 2)])])
        self.check("0 010, 1, 12, 0 0112, 1, 12", True, world=ring)
        # Other ways of no more steps than there may be.
        self.check("0 010, 1, 12, 0 0112, 1, 112", True, world=ring)
        self.check("0 010, 1, 12, 0 0112, 1, 122", False, world=ring)
        # A way of one step more: in a claim for a target, and in a claim for a shown thing.
        self.check("0 010, 1, 1 12, 0 0112, 1, 12", False, world=ring)
        self.check("0 010, 1, 12, 0 0 1 1 12, 1, 12", False, world=ring)
        self.check("0 010, 1, 12, 0 0112, 1, 1 112", False, world=ring)
        # A way that is too long for the shown thing, and ends at the target.
        self.check("0 010, 1, 0 12, 0 0112, 1, 12", False, world=ring)
        self.check("0 010, 1, 0 1 2 12, 0 0112, 1, 12", False, world=ring)
        # The start is there before the first step.
        self.check("0 010, 11, 12, 0 0112, 1, 12", False, world=ring)

    def test_other_letters_in_the_place_of_a_claim(self):
        self.check("2", False)
        self.check("0 2", False)
        self.check("0 012, 1, 12", False)
        self.check("0 010, 1, 12, 0 0122, 1, 12", False)

    def test_step_with_letters(self):
        # The no of the step says which of its halves does not hold.
        question = read_question("walk [a -> b: edge(a, b) and not b = x] x -> y")
        world = World(3, [("edge", 2, [(1, 2), (2, 1)])])
        self.check("0 0 1 0 0, 1, 12, 0 0 10 120, 1, 12", True, question, world)
        self.check("0 0 1 1 0, 1, 12, 0 0 10 120, 1, 12", False, question, world)
        self.check("0 0 1 0 0, 1, 12, 0 0 10 121, 1, 12", False, question, world)
        self.check("0 0 1 0, 1, 12, 0 0112, 1, 12", False, question, world)

    def test_wide(self):
        question = read_question("walk [a b -> c d: next(b, d) and a = c] x x -> y x")
        values = (("x", 0), ("y", 1))
        expected = naive.spelled(question.tree, False, PAIR, dict(values), 40)
        self.assertTrue(expected)
        for letters in expected:
            self.assertTrue(is_right(question, "no", PAIR, letters, values))
            for at in range(len(letters)):
                self.assertFalse(is_right(question, "no", PAIR, letters[:at], values))


class IsRight(unittest.TestCase):
    def test_all_short_papers(self):
        for world in (PAIR, samples.LOOSE):
            for question in samples.QUESTIONS + samples.WIDE:
                for values in samples.all_values(question, world):
                    for side in ("yes", "no"):
                        for letters in samples.all_letters(2, 5):
                            self.assertEqual(is_right(question, side, world, letters, values),
                                             naive.is_right(question, side, world, letters, values),
                                             (question.tree, side, letters, values))

    def test_exactly_one_side(self):
        chance = random.Random(33)
        for _ in range(150):
            world = samples.some_world(chance, 2)
            question = samples.some_question(chance, chance.choice((1, 2, 2, 3)))
            values = samples.some_values(chance, question, world)
            found = {side: [letters for letters in samples.all_letters(2, 6)
                            if is_right(question, side, world, letters, values)] for side in ("yes", "no")}
            self.assertEqual(found["no" if holds(question, world, values) else "yes"], [])
            for side, papers in found.items():
                self.assertEqual(papers, naive.right_papers(question, side, world, values, 6))

    def test_damaged_papers(self):
        chance = random.Random(34)
        right = 0
        for _ in range(250):
            world = samples.some_world(chance, chance.choice((2, 3)))
            question = samples.some_question(chance, chance.choice((2, 2, 3)))
            values = samples.some_values(chance, question, world)
            for side in ("yes", "no"):
                for letters in naive.right_papers(question, side, world, values, 9)[:5]:
                    self.assertTrue(is_right(question, side, world, letters, values))
                    for _ in range(12):
                        other = samples.damaged(chance, letters, world.size)
                        expected = naive.is_right(question, side, world, other, values)
                        right += expected
                        self.assertIs(is_right(question, side, world, other, values), expected)
        self.assertGreater(right, 20)

    def test_values(self):
        values = [("y", 0), ("a", 1), ["x", 1], ("b", 2), ("unused", 0)]
        self.assertTrue(is_right(STEPS, "no", CHAIN, list(NO_PAPER), values))
        self.assertTrue(is_right(question=STEPS, side="yes", world=CHAIN, letters=(1, 2), values=UPWARDS))
        self.assertTrue(is_right(read_question("some x: last(x)"), "yes", CHAIN, (2,)))
        letters, pairs = list(NO_PAPER), [list(pair) for pair in values]
        is_right(STEPS, "no", CHAIN, letters, pairs)
        self.assertEqual((letters, pairs), (list(NO_PAPER), [list(pair) for pair in values]))

    def test_letters_that_are_no_things(self):
        question = read_question("some z: (x = x or x = x)")
        self.assertTrue(is_right(question, "yes", CHAIN, (2, 1), (("x", 0),)))
        for letter in (3, -1, 400, 10 ** 20, -10 ** 20):
            self.assertFalse(is_right(question, "yes", CHAIN, (letter, 1), (("x", 0),)))
            self.assertFalse(is_right(question, "yes", CHAIN, (2, letter), (("x", 0),)))
            self.assertFalse(is_right(STEPS, "yes", CHAIN, (1, letter), UPWARDS))

    def test_deep_and_long(self):
        tree = ("walk", ("a",), ("b",), ("next", "a", "b"), ("x",), ("y",))
        for _ in range(18):
            tree = ("not", ("some", "c", tree))
        question = Question(tree)
        values = (("x", 0), ("y", 1))
        side, letters = paper(question, PAIR, values=values)
        self.assertEqual((side, len(letters)), ("yes", 3 * 2 ** 9 - 2))
        self.assertTrue(is_right(question, "yes", PAIR, letters, values))
        self.assertTrue(naive.is_right(question, "yes", PAIR, letters, values))
        self.assertFalse(is_right(question, "yes", PAIR, letters[:-1], values))
        world = World(400, [("edge", 2, [(thing, thing + 1) for thing in range(399)])])
        self.assertTrue(is_right(STEPS, "yes", world, tuple(range(1, 400)), (("x", 0), ("y", 399))))
        self.assertFalse(is_right(STEPS, "yes", world, tuple(range(1, 399)), (("x", 0), ("y", 399))))

    def test_many_things_without_letters(self):
        # What needs no letters is not gone through again and again.
        tree = ("rel", "edge", ("x", "v5"))
        for at in range(39):
            tree = ("every", "v%d" % at, tree)
        world = World(3, [("edge", 2, [(1, 0), (1, 1), (1, 2)])])
        self.assertTrue(is_right(Question(tree), "yes", world, (), (("x", 1),)))
        self.assertFalse(is_right(Question(tree), "yes", world, (0,), (("x", 1),)))
        self.assertFalse(is_right(Question(tree), "yes", world, (), (("x", 0),)))
        self.assertTrue(is_right(Question(("and", tree[2], tree[2])), "yes", world, (), (("x", 1), ("v38", 0))))

    def test_wide_walk_of_a_large_world(self):
        # Only so far is gone as there are letters.
        names = tuple("v%d" % at for at in range(120))
        question = Question(("walk", names[:60], names[60:], ("same", "v0", "v0"), ("x",) * 60, ("y",) * 60))
        world = World(400)
        self.assertFalse(is_right(question, "no", world, (1,) * 50, (("x", 0), ("y", 1))))
        self.assertTrue(is_right(question, "yes", world, (1,) * 60, (("x", 0), ("y", 1))))
        self.assertTrue(is_right(question, "yes", world, (5,) * 60 + (1,) * 60, (("x", 0), ("y", 1))))
        self.assertFalse(is_right(question, "yes", world, (1,) * 59, (("x", 0), ("y", 1))))

    def test_errors(self):
        samples.check_question_errors(
            self, lambda question, world, values, side: is_right(question, side, world, (), values), side=True)


if __name__ == "__main__":
    unittest.main()
