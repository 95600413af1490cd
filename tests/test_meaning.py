"""Points 18 to 20: holds, answers, tally."""

import itertools
import random
import unittest

from onceread.errors import BadValues, NoSuchRelation, Unvalued
from onceread.meaning import answers, holds, tally
from onceread.questions import Question
from onceread.sentences import read_question
from onceread.worlds import World

CHAIN = World(3, [("edge", 2, [(0, 1), (1, 2)]), ("mark", 1, [(1,)]), ("tri", 3, [(0, 1, 2)])])
NO_PAIRS = (None, True, 0, 5, "", "x", "x0", ("x",), ("x", 0, 0), (), [], [0], ("x", 3), ("x", -1), ("x", True),
            ("x", False), ("x", None), ("x", "0"), ("x", (0,)), ("x", [0]), (0, 0), (None, 0), (True, 0), ("", 0),
            ("X", 0), ("not", 0), ("0a", 0), ("abcdefghijklm", 0), (("x",), 0), (["x"], 0), (0, "x"))
NO_NAMES = (None, True, False, 0, "", "X", "some", "0a", "abcdefghijklm", "a b", (), [], ("x",), ["x"])


def means(tree, world, things):
    """The meaning of a tree by the words of the document, all tuples of a walk one by one."""
    word = tree[0]
    size = range(world.size)
    if word == "rel":
        return (tree[1], tuple(things[name] for name in tree[2])) in world.facts
    if word in ("same", "before", "next"):
        one, two = things[tree[1]], things[tree[2]]
        return {"same": one == two, "before": one < two, "next": two == one + 1}[word]
    if word in ("first", "last"):
        return things[tree[1]] == (0 if word == "first" else world.size - 1)
    if word == "not":
        return not means(tree[1], world, things)
    if word == "and":
        return means(tree[1], world, things) and means(tree[2], world, things)
    if word == "or":
        return means(tree[1], world, things) or means(tree[2], world, things)
    if word == "some":
        return any(means(tree[2], world, {**things, tree[1]: thing}) for thing in size)
    if word == "every":
        return all(means(tree[2], world, {**things, tree[1]: thing}) for thing in size)
    if word == "more":
        one = sum(means(tree[2], world, {**things, tree[1]: thing}) for thing in size)
        return one > sum(means(tree[4], world, {**things, tree[3]: thing}) for thing in size)
    _, left, right, step, start, goal = tree
    rows = list(itertools.product(size, repeat=len(left)))
    found = [tuple(things[name] for name in start)]
    for here in found:
        for row in rows:
            if row not in found and means(step, world, {**things, **dict(zip(left, here)), **dict(zip(right, row))}):
                found.append(row)
    return tuple(things[name] for name in goal) in found


def some_tree(chance, depth, walks=2):
    words = ["rel", "rel", "same", "before", "next", "first", "last", "not", "and", "or", "and", "or", "some", "every",
             "more"] + ["walk", "walk"] * (walks > 0)
    word = chance.choice(words if depth > 1 else words[:7])
    names = ("x", "y", "a", "b", "c")
    if word == "rel":
        name, many = chance.choice((("edge", 2), ("mark", 1), ("tri", 3), ("edge", 2)))
        return ("rel", name, tuple(chance.choice(names) for _ in range(many)))
    if word in ("first", "last"):
        return (word, chance.choice(names))
    if word in ("same", "before", "next"):
        return (word, chance.choice(names), chance.choice(names))
    one, two = some_tree(chance, depth - 1, walks - (word == "walk")), some_tree(chance, depth - 1, walks)
    if word == "not":
        return ("not", one)
    if word in ("and", "or"):
        return (word, one, two)
    if word in ("some", "every"):
        return (word, chance.choice(names), one)
    if word == "more":
        return ("more", chance.choice(names), one, chance.choice(names), two)
    width = chance.choice((1, 1, 2))
    bound = chance.sample(names, 2 * width)
    return ("walk", tuple(bound[:width]), tuple(bound[width:]), one,
            tuple(chance.choice(names) for _ in range(width)), tuple(chance.choice(names) for _ in range(width)))


def some_world(chance):
    size = chance.choice((2, 3, 3))
    share = chance.random()

    def rows(arity):
        return [row for row in itertools.product(range(size), repeat=arity) if chance.random() < share]

    return World(size, [("edge", 2, rows(2)), ("mark", 1, rows(1)), ("tri", 3, rows(3)), ("extra", 1, [])])


class Words(unittest.TestCase):
    def rows(self, text, *variables, world=CHAIN):
        question = read_question(text)
        found = answers(question, world, variables)
        for row in itertools.product(range(world.size), repeat=len(variables)):
            value = holds(question, world, tuple(zip(variables, row)))
            self.assertIs(value, row in found)
        return found

    def test_facts(self):
        self.assertEqual(self.rows("edge(x, y)", "x", "y"), ((0, 1), (1, 2)))
        self.assertEqual(self.rows("edge(x, y)", "y", "x"), ((1, 0), (2, 1)))
        self.assertEqual(self.rows("edge(x, x)", "x"), ())
        self.assertEqual(self.rows("mark(x)", "x"), ((1,),))
        self.assertEqual(self.rows("tri(x, z, y)", "x", "y", "z"), ((0, 2, 1),))

    def test_order(self):
        self.assertEqual(self.rows("x = y", "x", "y"), ((0, 0), (1, 1), (2, 2)))
        self.assertEqual(self.rows("x < y", "x", "y"), ((0, 1), (0, 2), (1, 2)))
        self.assertEqual(self.rows("next(x, y)", "x", "y"), ((0, 1), (1, 2)))
        self.assertEqual(self.rows("first(x)", "x"), ((0,),))
        self.assertEqual(self.rows("last(x)", "x"), ((2,),))
        self.assertEqual(self.rows("last(x)", "x", world=World(2)), ((1,),))
        self.assertEqual(self.rows("x < x or next(x, x)", "x"), ())

    def test_not_and_or(self):
        self.assertEqual(self.rows("not first(x)", "x"), ((1,), (2,)))
        self.assertEqual(self.rows("first(x) or last(x)", "x"), ((0,), (2,)))
        self.assertEqual(self.rows("not first(x) and not last(x)", "x"), ((1,),))
        self.assertEqual(self.rows("not (first(x) or last(x))", "x"), ((1,),))

    def test_some_and_every(self):
        self.assertEqual(self.rows("some y: edge(x, y)", "x"), ((0,), (1,)))
        self.assertEqual(self.rows("every y: not edge(x, y)", "x"), ((2,),))
        self.assertEqual(self.rows("some x: every y: not edge(y, x)"), ((),))
        self.assertEqual(self.rows("every x: some y: edge(x, y)"), ())
        self.assertEqual(self.rows("every x: first(y)", "y"), ((0,),))
        self.assertEqual(self.rows("some x: first(y)", "y"), ((0,),))

    def test_more(self):
        self.assertEqual(self.rows("more v: not v = x than w: w < x", "x"), ((0,), (1,)))
        self.assertEqual(self.rows("more v: v = v than w: w = w"), ())
        self.assertEqual(self.rows("more v: v = v than w: not first(w)"), ((),))
        self.assertEqual(self.rows("more x: edge(x, y) than y: edge(x, y)", "x", "y"), ((2, 1), (2, 2)))
        self.assertEqual(self.rows("more x: edge(x, y) than x: edge(y, x)", "y"), ((2,),))

    def test_walks(self):
        text = "walk [a -> b: edge(a, b)] x -> y"
        self.assertEqual(self.rows(text, "x", "y"), ((0, 0), (0, 1), (0, 2), (1, 1), (1, 2), (2, 2)))
        self.assertEqual(self.rows("walk [a -> b: edge(b, a)] x -> y", "x", "y"),
                         ((0, 0), (1, 0), (1, 1), (2, 0), (2, 1), (2, 2)))
        self.assertEqual(self.rows("walk [a -> b: first(a) and last(a)] x -> y", "x", "y"), ((0, 0), (1, 1), (2, 2)))
        self.assertEqual(self.rows("walk [a -> b: edge(a, b) and not b = z] x -> y", "x", "y", "z"),
                         tuple((x, y, z) for x in range(3) for y in range(x, 3) for z in range(3)
                               if not x < z <= y))
        self.assertEqual(self.rows("walk [a b -> c d: edge(a, c) and edge(b, d)] x x -> y z", "x", "y", "z"),
                         ((0, 0, 0), (0, 1, 1), (0, 2, 2), (1, 1, 1), (1, 2, 2), (2, 2, 2)))
        self.assertEqual(self.rows("walk [a b -> c d: a = d and b = c] x y -> z z", "x", "y", "z"),
                         ((0, 0, 0), (1, 1, 1), (2, 2, 2)))

    def test_walks_in_circles(self):
        world = World(4, [("edge", 2, [(0, 1), (1, 0), (2, 2)])])
        self.assertEqual(self.rows("walk [a -> b: edge(a, b)] x -> y", "x", "y", world=world),
                         ((0, 0), (0, 1), (1, 0), (1, 1), (2, 2), (3, 3)))

    def test_walks_within_walks(self):
        # One step is: there is a way along the edges, but none back.
        text = ("walk [a -> b: walk [c -> d: edge(c, d)] a -> b and not walk [c -> d: edge(c, d)] b -> a] x -> y")
        world = World(5, [("edge", 2, [(0, 1), (1, 2), (2, 1), (2, 3)])])
        self.assertEqual(self.rows(text, "x", "y", world=world), (
            (0, 0), (0, 1), (0, 2), (0, 3), (1, 1), (1, 3), (2, 2), (2, 3), (3, 3), (4, 4)))
        # The inner step depends on the outer tuple.
        text = "walk [a -> b: walk [c -> d: edge(c, d) and not d = a] x -> b] x -> y"
        for row in itertools.product(range(5), repeat=2):
            question = read_question(text)
            things = dict(zip("xy", row))
            self.assertIs(holds(question, world, list(things.items())), means(question.tree, world, things))

    def test_variables_bound_again(self):
        self.assertEqual(self.rows("some x: (first(x) and some x: last(x))"), ((),))
        self.assertEqual(self.rows("some x: (some x: last(x) and first(x))"), ())
        self.assertEqual(self.rows("first(x) and some x: last(x)", "x"), ((0,),))
        self.assertEqual(self.rows("(some x: last(x)) and first(x)", "x"), ((0,),))
        self.assertEqual(self.rows("walk [x -> y: edge(x, y)] y -> x", "x", "y"),
                         ((0, 0), (1, 0), (1, 1), (2, 0), (2, 1), (2, 2)))
        self.assertEqual(self.rows("walk [a -> b: walk [a -> b: edge(b, a)] a -> b] x -> y", "x", "y"),
                         ((0, 0), (1, 0), (1, 1), (2, 0), (2, 1), (2, 2)))
        self.assertEqual(self.rows("walk [a -> b: some a: edge(a, b)] x -> y", "x", "y"),
                         ((0, 0), (0, 1), (0, 2), (1, 1), (1, 2), (2, 1), (2, 2)))

    def test_no_free_variables(self):
        self.assertIs(holds(read_question("some x: mark(x)"), CHAIN), True)
        self.assertIs(holds(question=read_question("every x: mark(x)"), world=CHAIN, values=[]), False)

    def test_largest_world(self):
        world = World(400, [("edge", 2, [(at, at + 1) for at in range(399)])])
        question = read_question("walk [a -> b: edge(a, b)] x -> y")
        self.assertIs(holds(question, world, [("x", 0), ("y", 399)]), True)
        self.assertIs(holds(question, world, [("x", 1), ("y", 0)]), False)
        self.assertEqual(tally(question, world, "y", [("x", 300)]), 100)

    def test_wide_walks(self):
        for width in (5, 12, 60):
            names = ["a" + str(at) for at in range(width)], ["b" + str(at) for at in range(width)]
            turned = " and ".join("(" + " and ".join(part) + ")" for part in split(
                [one + " = " + two for one, two in zip(names[0], names[1][1:] + names[1][:1])], 8))
            text = ("walk [" + " ".join(names[0]) + " -> " + " ".join(names[1]) + ": " + turned + "] "
                    + "x " * (width - 1) + "y -> y" + " x" * (width - 1))
            self.assertIs(holds(read_question(text), World(2), [("x", 0), ("y", 1)]), True)

    def test_random_questions(self):
        chance = random.Random(20)
        for _ in range(500):
            world = some_world(chance)
            question = Question(some_tree(chance, 5))
            things = {name: chance.randrange(world.size) for name in question.free}
            with self.subTest(tree=question.tree, facts=world.facts, things=things):
                self.assertIs(holds(question, world, list(things.items())), means(question.tree, world, things))

    def test_random_answers(self):
        chance = random.Random(21)
        for _ in range(150):
            world = some_world(chance)
            question = Question(some_tree(chance, 4))
            names = list(question.free)
            chance.shuffle(names)
            if len(names) <= 4:
                expected = tuple(row for row in itertools.product(range(world.size), repeat=len(names))
                                 if means(question.tree, world, dict(zip(names, row))))
                self.assertEqual(answers(question, world, names), expected)

    def test_random_tallies(self):
        chance = random.Random(22)
        for _ in range(150):
            world = some_world(chance)
            question = Question(some_tree(chance, 4))
            things = {name: chance.randrange(world.size) for name in question.free}
            variable = chance.choice(("x", "y", "a", "new"))
            expected = sum(means(question.tree, world, {**things, variable: thing}) for thing in range(world.size))
            self.assertEqual(tally(question, world, variable, list(things.items())), expected)


def split(row, size):
    return [row[at:at + size] for at in range(0, len(row), size)]


class Errors(unittest.TestCase):
    def test_no_such_relation(self):
        for text, name in (("link(x)", "link"), ("edge(x)", "edge"), ("mark(x, y)", "mark"), ("tri(x, y)", "tri"),
                           ("mark(x) and b(x)", "b"), ("b(x) and a(x)", "a"), ("zz(x) or edge(x, y, z)", "edge"),
                           ("walk [a -> b: c(a, b)] x -> y", "c"), ("some x: d(x)", "d")):
            question = read_question(text)
            for values in ((), None, 5, [("x", 7)], [("x", 0), ("x", 0)], [("x", 0), ("y", 0), ("z", 0)], "x"):
                with self.subTest(text=text, values=values):
                    for call in (lambda: holds(question, CHAIN, values), lambda: tally(question, CHAIN, "x", values),
                                 lambda: tally(question, CHAIN, None, values),
                                 lambda: answers(question, CHAIN, values), lambda: answers(question, CHAIN, ("x",))):
                        with self.assertRaises(NoSuchRelation) as caught:
                            call()
                        self.assertEqual(caught.exception.name, name)

    def test_bad_values(self):
        question = read_question("first(x)")
        closed = read_question("some x: first(x)")
        for bad in NO_PAIRS:
            for values in ([bad], (bad,), [("y", 0), bad], [("x", 0), bad], (bad, ["x", 0])):
                with self.subTest(values=values):
                    self.assertRaises(BadValues, holds, question, CHAIN, values)
                    self.assertRaises(BadValues, holds, closed, CHAIN, values)
                    self.assertRaises(BadValues, tally, question, CHAIN, "x", values)
                    self.assertRaises(BadValues, tally, closed, CHAIN, "y", values)

    def test_values_are_no_sequence(self):
        for values in (None, True, 0, 5, "", "x", "x0"):
            self.assertRaises(BadValues, holds, read_question("first(x)"), CHAIN, values)
            self.assertRaises(BadValues, holds, read_question("some x: first(x)"), CHAIN, values)
            self.assertRaises(BadValues, tally, read_question("first(x)"), CHAIN, "x", values)

    def test_a_variable_twice(self):
        question = read_question("first(x)")
        for values in ([("x", 0), ("x", 0)], [("x", 0), ("x", 1)], [("x", 0), ("y", 1), ["y", 1]],
                       [("y", 2), ("x", 0), ("y", 0)]):
            self.assertRaises(BadValues, holds, question, CHAIN, values)
            self.assertRaises(BadValues, tally, question, CHAIN, "x", values)

    def test_unvalued(self):
        question = read_question("edge(z, y) and first(x)")
        for values, name in (((), "x"), ([("y", 0)], "x"), ([("x", 0)], "y"), ([["x", 0], ("y", 0)], "z"),
                             ([("z", 0), ("a", 1), ("y", 2)], "x")):
            with self.assertRaises(Unvalued) as caught:
                holds(question, CHAIN, values)
            self.assertEqual(caught.exception.variable, name)

    def test_bad_values_come_before_unvalued(self):
        self.assertRaises(BadValues, holds, read_question("first(x)"), CHAIN, [("y", 3)])
        self.assertRaises(BadValues, tally, read_question("first(x)"), CHAIN, "some")

    def test_goals_and_starts_need_things(self):
        question = read_question("walk [a -> b: edge(a, b)] x -> y")
        with self.assertRaises(Unvalued) as caught:
            holds(question, CHAIN, [("x", 0)])
        self.assertEqual(caught.exception.variable, "y")

    def test_other_variables_do_not_matter(self):
        question = read_question("first(x)")
        self.assertIs(holds(question, CHAIN, [["y", 2], ["x", 0]]), True)
        self.assertIs(holds(question, CHAIN, (("edge", 1), ("x", 1))), False)
        self.assertIs(holds(read_question("some x: last(x) and x = y"), CHAIN, [("x", 0), ("y", 2)]), True)

    def test_given_sequences_are_not_changed(self):
        values = [["x", 0], ("y", 1)]
        question = read_question("some z: (edge(x, y) and not z = x)")
        holds(question, CHAIN, values)
        tally(question, CHAIN, "y", values)
        self.assertEqual(values, [["x", 0], ("y", 1)])


class Answers(unittest.TestCase):
    def test_numbers_of_variables(self):
        question = read_question("edge(x, y)")
        self.assertEqual(answers(read_question("some x: mark(x)"), CHAIN, ()), ((),))
        self.assertEqual(answers(read_question("every x: mark(x)"), CHAIN, []), ())
        self.assertEqual(len(answers(question, CHAIN, ("x", "y", "z", "w"))), 2 * 9)
        self.assertRaises(BadValues, answers, question, CHAIN, ("x", "y", "z", "w", "v"))

    def test_variables_that_are_not_free(self):
        self.assertEqual(answers(read_question("mark(x)"), CHAIN, ["y", "x"]), ((0, 1), (1, 1), (2, 1)))
        self.assertEqual(answers(read_question("some x: mark(x)"), CHAIN, ["x"]), ((0,), (1,), (2,)))
        self.assertEqual(answers(read_question("mark(x)"), CHAIN, ("x", "y", "z")),
                         tuple((1, y, z) for y in range(3) for z in range(3)))

    def test_kind(self):
        found = answers(question=read_question("edge(x, y)"), world=CHAIN, variables=["x", "y"])
        self.assertIsInstance(found, tuple)
        self.assertTrue(all(isinstance(row, tuple) for row in found))

    def test_bad_variables(self):
        question = read_question("first(x)")
        for variables in (None, True, 0, "", "x", "xy", ("x", "x"), ["y", "x", "y"], [("x",)], ("x", 0)):
            with self.subTest(variables=variables):
                self.assertRaises(BadValues, answers, question, CHAIN, variables)
        for name in NO_NAMES:
            self.assertRaises(BadValues, answers, question, CHAIN, ("x", name))
            self.assertRaises(BadValues, answers, question, CHAIN, [name])

    def test_unvalued(self):
        question = read_question("edge(z, y) and first(x)")
        for variables, name in (((), "x"), (("x",), "y"), (["y", "x"], "z"), (("z", "y"), "x"), (("a", "z", "x"), "y")):
            with self.assertRaises(Unvalued) as caught:
                answers(question, CHAIN, variables)
            self.assertEqual(caught.exception.variable, name)

    def test_bad_values_come_before_unvalued(self):
        self.assertRaises(BadValues, answers, read_question("first(x)"), CHAIN, ("y", "y"))


class Tally(unittest.TestCase):
    def test_free_variable(self):
        question = read_question("walk [a -> b: edge(a, b)] x -> y")
        self.assertEqual([tally(question, CHAIN, "y", [("x", thing)]) for thing in range(3)], [3, 2, 1])
        self.assertEqual([tally(question, CHAIN, "x", [["y", thing]]) for thing in range(3)], [1, 2, 3])
        self.assertIs(isinstance(tally(question, CHAIN, "y", [("x", 0)]), bool), False)

    def test_pair_for_the_variable_does_not_matter(self):
        question = read_question("edge(x, y)")
        for thing in range(3):
            self.assertEqual(tally(question, CHAIN, "y", [("y", thing), ("x", 1)]), 1)
            self.assertEqual(tally(question, CHAIN, "y", [("y", thing), ("x", 2)]), 0)
        self.assertRaises(BadValues, tally, question, CHAIN, "y", [("x", 0), ("y", 3)])
        self.assertRaises(BadValues, tally, question, CHAIN, "y", [("x", 0), ("y", True)])

    def test_variable_that_is_not_free(self):
        question = read_question("some x: mark(x)")
        self.assertEqual(tally(question, CHAIN, "x"), 3)
        self.assertEqual(tally(question, CHAIN, "new", [("new", 2)]), 3)
        self.assertEqual(tally(question=read_question("mark(x)"), world=CHAIN, variable="y", values=[("x", 0)]), 0)
        self.assertEqual(tally(read_question("mark(x)"), CHAIN, "y", [("x", 1), ("y", 0)]), 3)

    def test_bad_variables(self):
        question = read_question("edge(x, y)")
        for name in NO_NAMES:
            with self.subTest(name=name):
                self.assertRaises(BadValues, tally, question, CHAIN, name)
                self.assertRaises(BadValues, tally, question, CHAIN, name, [("x", 0), ("y", 0)])

    def test_unvalued(self):
        question = read_question("edge(x, y) and first(z)")
        for variable, values, name in (("x", (), "y"), ("y", (), "x"), ("x", [("z", 0)], "y"), ("z", [("x", 0)], "y"),
                                       ("new", [("x", 0), ("y", 0)], "z"), ("x", [("x", 0)], "y")):
            with self.assertRaises(Unvalued) as caught:
                tally(question, CHAIN, variable, values)
            self.assertEqual(caught.exception.variable, name)


if __name__ == "__main__":
    unittest.main()
