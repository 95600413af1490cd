"""Points 59 and 61: named, words and view."""

import itertools
import random
import unittest

from onceread.asking import judge_of
from onceread.errors import BadQuestion, BadValues, NoSuchWord, Unvalued
from onceread.library import named, view, words
from onceread.meaning import answers, holds
from onceread.papers import paper
from onceread.questions import Question
from onceread.running import verdict
from onceread.sentences import read_question, write_question
from onceread.worlds import World

import reckonings
import samples
from reckonings import FREE, reckoned
from samples import CHAIN, STEPS, check_error

WORDS = ("alike", "apart", "bridge", "fillable", "linked", "noreturn", "onring", "reachesmore", "ringless", "rooted",
         "through", "twosided")
BAD_NAMES = ("", "Edge", "edge ", "walk", "first", "9a", "a_b", "edge(", "abcdefghijklm")


def of_size(number):
    """A tree in which so many trees stand."""
    if number < 3:
        return ("last", "x") if number == 1 else ("not", ("last", "x"))
    half = (number - 1) // 2
    return "and", of_size(half), of_size(number - 1 - half)


class Words(unittest.TestCase):
    def test_words(self):
        self.assertEqual(words(), WORDS)
        self.assertIsInstance(words(), tuple)


class Named(unittest.TestCase):
    def test_free_variables_and_relations(self):
        for word in WORDS:
            # Also names that the tree may have for its variables.
            for relation in ("edge", "a", "b", "c", "d", "f", "m", "p", "q", "t", "x", "y", "abcdefghijkl", "pp", "good"):
                question = named(word, relation)
                self.assertIsInstance(question, Question)
                self.assertEqual("".join(question.free), FREE[word])
                self.assertEqual(question.uses, reckonings.uses(word, relation))
                self.assertEqual(named(word=word, relation=relation), question)
            self.assertEqual(named(word), named(word, "edge"))
            self.assertEqual(read_question(write_question(named(word))), named(word))

    def test_reckoned(self):
        chance = random.Random(59)
        for word in WORDS:
            told = {True: 0, False: 0}
            question = named(word)
            for _ in range(60):
                world = World(chance.choice((2, 3, 4)), ())
                world = World(world.size, reckonings.some_relations(chance, word, world.size))
                for _ in range(4):
                    things = tuple(chance.randrange(world.size) for _ in question.free)
                    expected = reckoned(word, world, things)
                    told[expected] += 1
                    self.assertIs(holds(question, world, tuple(zip(question.free, things))), expected, (word, world.facts))
            self.assertGreater(min(told.values()), 10, word)

    def test_all_worlds_of_two_things(self):
        pairs = list(itertools.product(range(2), repeat=2))
        for word in WORDS:
            if word in reckonings.OTHERS:
                continue
            question = named(word, "rel")
            for marks in itertools.product((0, 1), repeat=4):
                world = World(2, [("rel", 2, [pair for pair, mark in zip(pairs, marks) if mark])])
                for things in itertools.product(range(2), repeat=len(question.free)):
                    self.assertIs(holds(question, world, tuple(zip(question.free, things))),
                                  reckoned(word, world, things, "rel"), (word, world.facts, things))

    def test_all_fillings_and_letters_of_two_things(self):
        pairs = list(itertools.product(range(2), repeat=2))
        lots = [[pair for pair, mark in zip(pairs, marks) if mark] for marks in itertools.product((0, 1), repeat=4)]
        for pp, pn, nn in itertools.product(lots, lots[::5], lots):
            world = World(2, [("pp", 2, pp), ("pn", 2, pn), ("nn", 2, nn)])
            self.assertIs(holds(named("fillable"), world), reckoned("fillable", world, ()), world.facts)
        for zero, one in itertools.product(lots, repeat=2):
            for good in ((), ((0,),), ((1,),), ((0,), (1,))):
                world = World(2, [("zero", 2, zero), ("one", 2, one), ("good", 1, good)])
                for things in pairs:
                    values = tuple(zip("xy", things))
                    self.assertIs(holds(named("alike"), world, values), reckoned("alike", world, things), world.facts)

    def test_edges(self):
        def check(word, rows, expected, size=4, **things):
            world = World(size, [("edge", 2, rows)])
            values = tuple(sorted(things.items()))
            self.assertIs(holds(named(word), world, values), expected, (word, rows, things))

        check("linked", [(0, 1), (1, 2), (2, 3), (3, 0)], True)
        check("linked", [(0, 1), (1, 2), (2, 3)], False)
        check("rooted", [(2, 1), (2, 3), (3, 0)], True)
        check("rooted", [(2, 1), (0, 3)], False)
        check("ringless", [(0, 1), (1, 2), (0, 2)], True)
        check("ringless", [(0, 1), (3, 3)], False)
        check("onring", [(3, 3)], True, x=3)
        check("onring", [(0, 1), (1, 1)], False, x=0)
        check("apart", [(0, 1)], False, x=2, y=2)
        check("apart", [(2, 0), (2, 1)], True, x=0, y=1)
        check("apart", [(1, 0)], False, x=0, y=1)
        # The way of no steps, the ends, no way at all.
        check("through", [], False, m=1, x=0, y=0)
        check("through", [(0, 1), (1, 0)], False, m=1, x=0, y=0)
        check("through", [], True, m=0, x=0, y=0)
        check("through", [(0, 1)], True, m=1, x=0, y=1)
        check("through", [(0, 1)], True, m=0, x=0, y=1)
        check("through", [], True, m=2, x=0, y=1)
        check("through", [(0, 2), (2, 1)], True, m=2, x=0, y=1)
        check("through", [(0, 2), (2, 1), (0, 3), (3, 1)], False, m=2, x=0, y=1)
        check("bridge", [(0, 1), (1, 0)], True, x=0, y=1)
        check("bridge", [(0, 1), (0, 2), (1, 2)], False, x=0, y=1)
        check("bridge", [(0, 1)], False, x=2, y=2)
        check("noreturn", [(0, 1), (1, 2)], True, x=0, y=2)
        check("noreturn", [(0, 1), (1, 2), (2, 1)], False, x=0, y=2)
        check("noreturn", [(0, 1), (1, 2), (2, 1)], True, x=0, y=1)
        check("noreturn", [(3, 3)], True, x=3, y=3)
        check("twosided", [], True)
        check("twosided", [(0, 1), (2, 1), (2, 3), (0, 3)], True)
        check("twosided", [(0, 1), (1, 2), (0, 2)], False)
        check("twosided", [(0, 1), (2, 2)], False)
        check("reachesmore", [(0, 1)], True, x=0, y=1)
        check("reachesmore", [(0, 1)], False, x=1, y=0)
        check("reachesmore", [(0, 1), (2, 3)], False, x=0, y=2)

    def test_papers_and_judges(self):
        chance = random.Random(60)
        for word in WORDS:
            question = named(word)
            for _ in range(3):
                world = World(2, reckonings.some_relations(chance, word, 2))
                things = tuple(chance.randrange(2) for _ in question.free)
                side, letters = paper(question, world, values=tuple(zip(question.free, things)))
                self.assertEqual(side, "yes" if reckoned(word, world, things) else "no")
                self.assertEqual(verdict(judge_of(question, side), world, letters, things), "taken")

    def test_errors(self):
        for word in ("", "Linked", "linked ", "edge", "view", "reaches", "one", "LINKED"):
            for relation in ("edge", "Edge", None, 7):
                check_error(self, NoSuchWord(word), named, word, relation)
            check_error(self, NoSuchWord(word), named, word)
        for word in WORDS:
            for relation in BAD_NAMES:
                check_error(self, BadQuestion, named, word, relation)


class View(unittest.TestCase):
    def test_tree(self):
        tree = STEPS.tree
        row = ("rel", "seen", ("x", "y"))
        inner = ("or", ("and", row, tree), ("and", ("not", row), ("not", tree)))
        self.assertEqual(view("seen", STEPS, ("x", "y")).tree, ("every", "x", ("every", "y", inner)))
        self.assertEqual(view("seen", STEPS, ["x", "y"]), view(name="seen", question=STEPS, variables=("x", "y")))
        row = ("rel", "edge", ("y", "x"))
        inner = ("or", ("and", row, tree), ("and", ("not", row), ("not", tree)))
        self.assertEqual(view("edge", STEPS, ("y", "x")).tree, ("every", "y", ("every", "x", inner)))
        last = ("last", "x")
        row = ("rel", "far", ("x",))
        self.assertEqual(view("far", Question(last), ("x",)).tree, (
            "every", "x", ("or", ("and", row, last), ("and", ("not", row), ("not", last)))))
        row = ("rel", "x", ("b", "x", "a"))
        self.assertEqual(view("x", Question(last), ("b", "x", "a")).tree, (
            "every", "b", ("every", "x", ("every", "a", ("or", ("and", row, last), ("and", ("not", row), ("not", last)))))))

    def test_holds_if_the_rows_are_the_answers(self):
        chance = random.Random(61)
        for _ in range(120):
            question = samples.some_question(chance, 2)
            more = [name for name in ("x", "y", "a", "b", "c") if name not in question.free]
            variables = list(question.free) + more[:chance.randrange(2)]
            variables = (variables or ["x"])[:3]
            if not set(question.free) <= set(variables):
                continue
            chance.shuffle(variables)
            world = samples.some_world(chance, 2)
            rows = answers(question, world, variables)
            relations = [(name, world.arity(name), world.rows(name)) for name in world.names]
            right = World(2, relations + [("seen", len(variables), rows)])
            asked = view("seen", question, variables)
            self.assertTrue(holds(asked, right))
            for row in itertools.product(range(2), repeat=len(variables)):
                other = right.drop("seen", row) if ("seen", row) in right else right.put("seen", row)
                self.assertFalse(holds(asked, other))

    def test_relation_of_the_question(self):
        # The rows of edge are closed under one step more exactly if they are what is reached.
        asked = view("edge", read_question("edge(x, y) or some a: (edge(x, a) and edge(a, y))"), ("x", "y"))
        self.assertFalse(holds(asked, CHAIN))
        self.assertTrue(holds(asked, CHAIN.put("edge", (0, 2))))

    def test_bad_values(self):
        for wrong in ((), [], ("x", "x"), ("x", "y", "x"), ("x", "y", "a", "b"), ("x", "Y"), ("x", "walk"), ("x", ""),
                      ("x", None), ("x", 0), ("x", ("y",)), None, 7, True, "xy"):
            check_error(self, BadValues, view, "seen", STEPS, wrong)
            check_error(self, BadValues, view, "Seen", read_question("last(z)"), wrong)

    def test_unvalued(self):
        question = read_question("walk [c -> d: tri(c, b, d)] y -> x")
        for variables, missing in ((("x",), "b"), (("b", "y"), "x"), (("b", "x", "a"), "y"), (("a", "c", "d"), "b")):
            for name in ("seen", "Seen", "tri", ""):
                check_error(self, Unvalued(missing), view, name, question, variables)

    def test_bad_question(self):
        for name in BAD_NAMES:
            check_error(self, BadQuestion, view, name, STEPS, ("x", "y"))
        check_error(self, BadQuestion, view, "edge", STEPS, ("x", "y", "z"))
        check_error(self, BadQuestion, view, "edge", read_question("last(x) and edge(x, x)"), ("x",))
        # Three more levels above the question, and one for each variable.
        for number in (1, 2, 3):
            variables = ("x", "y", "z")[:number]
            for depth in range(34, 41):
                tree = ("last", "x")
                for _ in range(depth - 1):
                    tree = ("not", tree)
                if depth + 3 + number <= 40:
                    self.assertEqual(view("seen", Question(tree), variables).free, ())
                else:
                    check_error(self, BadQuestion, view, "seen", Question(tree), variables)
        # The question twice, 7 trees more, and one for each variable.
        for number in (1, 2, 3):
            variables = ("x", "y", "z")[:number]
            most = (20000 - 7 - number) // 2
            self.assertIsInstance(view("seen", Question(of_size(most)), variables), Question)
            check_error(self, BadQuestion, view, "seen", Question(of_size(most + 1)), variables)


if __name__ == "__main__":
    unittest.main()
