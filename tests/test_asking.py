"""Point 38: judge_of."""

import random
import unittest

from onceread.asking import judge_of
from onceread.bills import bill
from onceread.errors import TooLarge
from onceread.grammar import is_right
from onceread.judges import Judge
from onceread.papers import paper
from onceread.questions import Question
from onceread.reaching import can_take
from onceread.resting import rests_on
from onceread.running import looks, verdict
from onceread.seeking import least_letters, taken_papers
from onceread.sentences import read_question
from onceread.trees import trees_in
from onceread.worlds import World

import naive
import samples
from samples import CHAIN, NO_PAPER, PAIR, STEPS, check_error

SIDES = ("yes", "no")


def things_of(values):
    return tuple(thing for _, thing in values)


def names(sign, width):
    return tuple("%s%d" % (sign, at) for at in range(width))


def wide_walk(width, step, ends=("x", "y")):
    return "walk", names("a", width), names("b", width), step, (ends[0],) * width, (ends[1],) * width


class Shape(unittest.TestCase):
    def test_given_uses_and_registers(self):
        for question in samples.QUESTIONS + samples.WIDE:
            for side in SIDES:
                judge = judge_of(question, side)
                self.assertIsInstance(judge, Judge)
                self.assertEqual(judge.given, len(question.free))
                self.assertLessEqual(set(judge.uses), set(question.uses))
                self.assertLessEqual(judge.registers, bill(question, side))
                self.assertLessEqual(len(judge.lines), 20000)
        self.assertEqual(judge_of(question=STEPS, side="no").given, 2)

    def test_equal_judges(self):
        for question in samples.QUESTIONS + samples.WIDE:
            other = Question(list(question.tree))
            for side in SIDES:
                self.assertEqual(judge_of(question, side), judge_of(other, side))
        listed = Question(["walk", ["a"], ["b"], ["rel", "edge", ["a", "b"]], ["x"], ["y"]])
        self.assertEqual(judge_of(listed, "no"), judge_of(STEPS, "no"))

    def test_given_things_in_the_order_of_the_variables(self):
        judge = judge_of(read_question("edge(y, x)"), "yes")
        self.assertEqual(verdict(judge, CHAIN, (), (1, 0)), "taken")
        self.assertEqual(verdict(judge, CHAIN, (), (0, 1)), "refused")
        judge = judge_of(read_question("tri(c, a, b)"), "yes")
        world = World(3, [("tri", 3, [(2, 0, 1)])])
        self.assertEqual(verdict(judge, world, (), (0, 1, 2)), "taken")
        self.assertEqual(verdict(judge, world, (), (2, 0, 1)), "refused")

    def test_same_relations_of_other_worlds(self):
        # The world may have more relations, and any size.
        world = World(400, [("edge", 2, [(0, 399)]), ("more9", 1, [])])
        self.assertEqual(verdict(judge_of(STEPS, "yes"), world, (399,), (0, 399)), "taken")
        self.assertEqual(verdict(judge_of(STEPS, "yes"), world, (398, 399), (0, 399)), "refused")

    def test_bad_side(self):
        for side in ("", "Yes", "yes ", "never", "taken"):
            check_error(self, samples.BadSide(side), judge_of, STEPS, side)
            check_error(self, samples.BadSide(side), judge_of, Question(wide_walk(60, ("first", "x"))), side)


class Taken(unittest.TestCase):
    def check(self, question, world, values, letters, judges):
        """Both judges tell of these letters what is right."""
        for side in SIDES:
            expected = naive.is_right(question, side, world, letters, values)
            found = verdict(judges[side], world, letters, things_of(values))
            self.assertEqual(found, "taken" if expected else "refused", (question.tree, side, values, letters))

    def test_example(self):
        judge = judge_of(STEPS, "no")
        self.assertEqual(verdict(judge, CHAIN, NO_PAPER, (1, 0)), "taken")
        self.assertEqual(verdict(judge, CHAIN, NO_PAPER[:-1], (1, 0)), "refused")
        self.assertEqual(verdict(judge, CHAIN, NO_PAPER + (0,), (1, 0)), "refused")
        self.assertEqual(verdict(judge_of(STEPS, "yes"), CHAIN, (1, 2), (0, 2)), "taken")
        self.assertEqual(least_letters(judge, CHAIN, (1, 0)), NO_PAPER)
        self.assertFalse(can_take(judge, CHAIN, (0, 2)))
        self.assertFalse(can_take(judge, CHAIN, (1, 1)))

    def test_all_short_papers(self):
        for world in (PAIR, samples.LOOSE):
            for question in samples.QUESTIONS + samples.WIDE:
                judges = {side: judge_of(question, side) for side in SIDES}
                for values in samples.all_values(question, world):
                    for letters in samples.all_letters(2, 5):
                        self.check(question, world, values, letters, judges)

    def test_all_short_papers_of_a_world_of_three(self):
        for question in samples.QUESTIONS:
            judges = {side: judge_of(question, side) for side in SIDES}
            for values in samples.all_values(question, CHAIN)[::4]:
                for letters in samples.all_letters(3, 3):
                    self.check(question, CHAIN, values, letters, judges)

    def test_longer_papers_of_walks(self):
        for text in ("walk [a -> b: edge(a, b)] x -> y", "walk [a -> b: edge(b, a) or mark(a)] x -> y"):
            question = read_question(text)
            judges = {side: judge_of(question, side) for side in SIDES}
            for values in ((("x", 0), ("y", 1)), (("x", 1), ("y", 0))):
                for letters in samples.all_letters(2, 10):
                    self.check(question, PAIR, values, letters, judges)

    def test_papers_found_in_the_judge(self):
        # What the judge takes, found by a search through all that it can come to.
        for world in (PAIR, samples.LOOSE):
            for question in samples.QUESTIONS:
                values = samples.all_values(question, world)[0]
                for side in SIDES:
                    found = list(taken_papers(judge_of(question, side), world, things_of(values), upto=6))
                    self.assertEqual(found, naive.right_papers(question, side, world, values, 6), (question.tree, side))

    def test_damaged_papers(self):
        chance = random.Random(38)
        taken = 0
        for _ in range(400):
            world = samples.some_world(chance, chance.choice((2, 2, 3)))
            question = samples.some_question(chance, chance.choice((2, 3, 3)))
            values = samples.some_values(chance, question, world)
            judges = {side: judge_of(question, side) for side in SIDES}
            side, letters = paper(question, world, values=values, limit=10 ** 6)
            self.assertEqual(verdict(judges[side], world, letters, things_of(values)), "taken")
            for _ in range(8 if len(letters) < 2000 else 1):
                other = samples.damaged(chance, letters, world.size)
                self.check(question, world, values, other, judges)
                taken += naive.is_right(question, side, world, other, values)
        self.assertGreater(taken, 30)

    def test_ways_of_each_length(self):
        # Ways that are too long, in both kinds of claims, with a world in which one can stay.
        world = World(3, [("edge", 2, [(1, 2), (2, 1), (1, 1), (2, 2)])])
        judge = judge_of(STEPS, "no")
        values = (("x", 1), ("y", 0))
        taken = 0
        for one in samples.all_letters(3, 2):
            for two in samples.all_letters(3, 3):
                for three in samples.all_letters(3, 2):
                    letters = (0, 0, 1, 0, 1, 1) + three + (0, 0, 1, 1) + one + (1, 1) + two
                    expected = is_right(STEPS, "no", world, letters, values)
                    self.assertEqual(verdict(judge, world, letters, (1, 0)), "taken" if expected else "refused")
                    taken += expected
        self.assertEqual(taken, 3)

    def test_never_endless(self):
        chance = random.Random(39)
        for _ in range(300):
            world = samples.some_world(chance, chance.choice((2, 3)))
            question = samples.some_question(chance, 3)
            values = samples.some_values(chance, question, world)
            for side in SIDES:
                judge = judge_of(question, side)
                for _ in range(4):
                    letters = [chance.choice((0, 0, 1, 1, chance.randrange(world.size))) for _ in range(30)]
                    self.assertNotEqual(verdict(judge, world, letters, things_of(values)), "endless")


class LooksAt(unittest.TestCase):
    def test_right_papers(self):
        chance = random.Random(40)
        for question in samples.QUESTIONS + samples.WIDE:
            for _ in range(4):
                world = samples.some_world(chance, chance.choice((2, 3)))
                values = samples.some_values(chance, question, world)
                side, letters = paper(question, world, values=values, limit=10 ** 6)
                self.assertEqual(looks(judge_of(question, side), world, letters, things_of(values)),
                                 rests_on(question, side, world, letters, values))

    def test_least_papers(self):
        for question in samples.QUESTIONS:
            judges = {side: judge_of(question, side) for side in SIDES}
            for values in samples.all_values(question, CHAIN):
                side, letters = paper(question, CHAIN, values=values)
                self.assertEqual(verdict(judges[side], CHAIN, letters, things_of(values)), "taken")
                self.assertEqual(looks(judges[side], CHAIN, letters, things_of(values)),
                                 rests_on(question, side, CHAIN, letters, values))

    def test_all_short_right_papers(self):
        for question in samples.QUESTIONS:
            for side in SIDES:
                judge = judge_of(question, side)
                for values in samples.all_values(question, PAIR):
                    for letters in naive.right_papers(question, side, PAIR, values, 7)[:20]:
                        self.assertEqual(looks(judge, PAIR, letters, things_of(values)),
                                         tuple(sorted(naive.read(question, side, PAIR, letters, values).looked)))


class Large(unittest.TestCase):
    def check_made(self, tree):
        for side in SIDES:
            question = Question(tree)
            judge = judge_of(question, side)
            self.assertLessEqual(judge.registers, bill(question, side))

    def check_too_large(self, tree, sides=SIDES):
        for side in sides:
            check_error(self, TooLarge, judge_of, Question(tree), side)

    def test_bill(self):
        # 9 * 44 + 1 registers, one more, and the free variable.
        for step, side, bound in ((("first", "a0"), "no", 399), (("some", "v", ("first", "a0")), "no", 400)):
            tree = wide_walk(44, step, ("x", "x"))
            self.assertEqual(bill(Question(tree), side), bound)
            self.check_made(tree)
        tree = wide_walk(44, ("some", "v", ("some", "v", ("first", "a0"))), ("x", "x"))
        self.assertEqual(bill(Question(tree), "no"), 401)
        self.check_too_large(tree, ("no",))
        judge_of(Question(tree), "yes")
        self.check_too_large(("not", tree), ("yes",))
        self.check_too_large(wide_walk(60, ("first", "a0")), ("no",))
        judge_of(Question(wide_walk(60, ("first", "a0"))), "yes")
        self.check_too_large(wide_walk(60, wide_walk(60, wide_walk(60, wide_walk(60, ("first", "a0"))))))

    def test_lines(self):
        tree = ("before", "x", "y")
        for _ in range(12):
            tree = ("and", tree, tree)
        self.check_too_large(tree)
        tree = ("rel", "edge", ("x", "y"))
        for _ in range(12):
            tree = ("more", "v", tree, "v", tree)
        self.check_too_large(tree)

    def test_many_lines(self):
        # Many lines, but not too many.
        tree = ("rel", "edge", ("x", "y"))
        for _ in range(11):
            tree = ("and", tree, tree)
        self.check_made(tree)
        self.assertEqual(verdict(judge_of(Question(tree), "yes"), CHAIN, (), (0, 1)), "taken")
        self.assertEqual(verdict(judge_of(Question(tree), "no"), CHAIN, (0,) * 11, (1, 0)), "taken")
        self.assertEqual(verdict(judge_of(Question(tree), "no"), CHAIN, (0,) * 10, (1, 0)), "refused")

    def test_promised_nested(self):
        """At most 60 trees, none wider than 2, none within more than two other walks or `more`."""
        def walk(step, sign):
            return ("walk", (sign + "a", sign + "b"), (sign + "c", sign + "d"), step, ("x", "y"), ("y", "x"))

        def joined(word, part, number):
            return part if number == 1 else (word, part, joined(word, part, number - 1))

        def compared(one, two, sign):
            return ("more", sign, one, sign, two)

        atom = ("before", "x", "y")
        pair = compared(atom, atom, "p")
        for word in ("and", "or"):
            for number, part in ((19, walk(atom, "i")), (14, pair), (14, compared(atom, ("last", "x"), "p"))):
                inner = joined(word, part, number)
                for outer in (walk(walk(inner, "m"), "o"), walk(("not", walk(inner, "m")), "o")):
                    self.assertLessEqual(len(trees_in(outer)), 60)
                    self.check_made(outer)
                    self.check_made(("not", outer) if len(trees_in(outer)) < 60 else outer)
            for part, number in ((walk(atom, "i"), 9), (pair, 6)):
                inner = joined(word, part, number)
                for tree in (compared(compared(inner, inner, "q"), atom, "r"), walk(compared(inner, inner, "q"), "r"),
                             compared(walk(inner, "q"), walk(inner, "s"), "r")):
                    self.assertLessEqual(len(trees_in(tree)), 60)
                    self.check_made(tree)
        four = compared(compared(pair, pair, "q"), compared(pair, pair, "q"), "r")
        self.check_made(joined("and", four, 3))
        self.check_made(joined("or", compared(walk(pair, "q"), walk(walk(atom, "t"), "s"), "r"), 5))

    def test_promised_wide(self):
        """A bill of at most 400, at most 100 trees, one walk of any width and no `more`."""
        for word in ("and", "or"):
            for one, number in ((("before", "x", "y"), 49), (("next", "a0", "b1"), 49),
                                (("some", "v", ("before", "v", "x")), 33)):
                parts = [one] * number
                while len(parts) > 1:
                    parts = [(word, parts[at], parts[at + 1]) if at + 1 < len(parts) else parts[at]
                             for at in range(0, len(parts), 2)]
                for width in (2, 30, 43):
                    tree = wide_walk(width, parts[0])
                    self.assertIn(len(trees_in(tree)), (98, 99, 100))
                    self.check_made(tree)
        self.check_made(("every", "x", ("some", "y", wide_walk(43, ("or", ("last", "x"), ("same", "a0", "b42"))))))
        judge_of(Question(wide_walk(60, ("or", ("last", "x"), ("same", "a0", "b42")))), "yes")


if __name__ == "__main__":
    unittest.main()
