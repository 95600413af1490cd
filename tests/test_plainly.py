"""Point 60: plainly."""

import itertools
import random
import unittest

from onceread import plainly as module
from onceread.errors import BadQuestion, BadValues, NoSuchRelation, NoSuchWord, Unvalued
from onceread.library import named, words
from onceread.meaning import holds
from onceread.plainly import plainly
from onceread.worlds import World

import reckonings
from reckonings import FREE, reckoned
from samples import check_error


class Told(unittest.TestCase):
    def test_reckoned(self):
        chance = random.Random(60)
        for word in words():
            told = {True: 0, False: 0}
            for _ in range(100):
                relation = chance.choice(("edge", "a", "x", "pp", "zero"))
                size = chance.choice((2, 3, 4, 5))
                world = World(size, reckonings.some_relations(chance, word, size, relation))
                things = tuple(chance.randrange(size) for _ in FREE[word])
                values = list(zip(FREE[word], things)) + [("z", 0)]
                chance.shuffle(values)
                expected = reckoned(word, world, things, relation)
                told[expected] += 1
                self.assertIs(plainly(word, world, values, relation), expected, (word, world.facts, things))
            self.assertGreater(min(told.values()), 7, word)

    def test_as_holds_does(self):
        chance = random.Random(61)
        for word in words():
            for _ in range(60):
                size = chance.choice((2, 3, 4))
                world = World(size, reckonings.some_relations(chance, word, size, "r2") + [("edge", 1, [(0,)])])
                values = [(name, chance.randrange(size)) for name in FREE[word]]
                self.assertIs(plainly(word=word, world=world, values=values, relation="r2"),
                              holds(named(word, "r2"), world, values))

    def test_all_worlds_of_two_things(self):
        pairs = list(itertools.product(range(2), repeat=2))
        for word in words():
            if word in reckonings.OTHERS:
                continue
            for marks in itertools.product((0, 1), repeat=4):
                world = World(2, [("edge", 2, [pair for pair, mark in zip(pairs, marks) if mark])])
                for things in itertools.product(range(2), repeat=len(FREE[word])):
                    self.assertIs(plainly(word, world, tuple(zip(FREE[word], things))), reckoned(word, world, things))

    def test_larger_worlds(self):
        chance = random.Random(62)
        for word in words():
            for _ in range(4):
                relations = [(name, arity, [row for row in itertools.product(range(12), repeat=arity)
                                            if chance.random() < 0.1]) for name, arity in reckonings.uses(word)]
                world = World(12, relations)
                values = [(name, chance.randrange(12)) for name in FREE[word]]
                self.assertIs(plainly(word, world, values), holds(named(word), world, values), (word, world.facts))

    def test_rings_of_each_length(self):
        for size in range(2, 12):
            ring = World(size, [("edge", 2, [(thing, (thing + 1) % size) for thing in range(size)])])
            self.assertIs(plainly("twosided", ring), size % 2 == 0)
            self.assertIs(holds(named("twosided"), ring), size % 2 == 0)
            self.assertIs(plainly("bridge", ring, (("x", 0), ("y", 1))), size == 2)
            self.assertIs(plainly("linked", ring), True)
            self.assertIs(plainly("onring", ring, (("x", size - 1),)), True)

    def test_largest_world(self):
        ring = World(400, [("edge", 2, [(thing, (thing + 1) % 400) for thing in range(400)])])
        line = ring.drop("edge", (399, 0))
        self.assertIs(plainly("linked", ring), True)
        self.assertIs(plainly("twosided", ring), True)
        self.assertIs(plainly("rooted", line), True)
        self.assertIs(plainly("linked", line), False)
        self.assertIs(plainly("ringless", line), True)
        self.assertIs(plainly("noreturn", line, (("x", 0), ("y", 399))), True)
        self.assertIs(plainly("noreturn", ring, (("x", 0), ("y", 399))), False)

    def test_knows_nothing_of_questions(self):
        with open(module.__file__, encoding="utf-8") as file:
            source = file.read()
        for name in ("library", "questions", "sentences", "meaning", "truths", "trees"):
            self.assertNotIn("onceread." + name, source)


class Errors(unittest.TestCase):
    def both(self, error, word, world, *more):
        """The same error as that of holds and named."""
        check_error(self, error, plainly, word, world, *more)
        values, relation = (tuple(more) + ((), "edge")[len(more):])
        check_error(self, error, lambda: holds(named(word, relation), world, values))

    def test_word_and_relation(self):
        for word in ("", "Linked", "edge", "walk", "linked "):
            for relation in ("edge", "Edge", ""):
                self.both(NoSuchWord(word), word, World(2), None, relation)
        for word in words():
            for relation in ("", "Edge", "walk", "not", "a b", "abcdefghijklm"):
                self.both(BadQuestion, word, World(2), None, relation)

    def test_relations(self):
        for word in words():
            needed = reckonings.uses(word)
            for at, (name, arity) in enumerate(needed):
                for others in ([], [(name, arity % 3 + 1, [])]):
                    world = World(2, [(other, width, []) for other, width in needed[:at]] + others)
                    for values in ((), None, (("x", 5),)):
                        self.both(NoSuchRelation(name), word, world, values)
            self.both(NoSuchRelation(reckonings.uses(word, "zulu")[0][0]), word, World(2, [("edge", 2, [])]), (), "zulu")

    def test_values(self):
        for word in words():
            world = World(2, [(name, arity, []) for name, arity in reckonings.uses(word)])
            for wrong in (None, 7, "xy", (None,), (("x", 2),), (("x", -1),), (("x", True),), (("x", "0"),), (("X", 0),),
                          (("x",),), (("x", 0, 0),), (("z", 0), ("z", 0)), (("m", 0), ("x", 0), ("y", 0), ("not", 0))):
                self.both(BadValues, word, world, wrong)
            full = tuple((name, 0) for name in FREE[word])
            self.assertIn(plainly(word, world, full), (True, False))
            for at, name in enumerate(FREE[word]):
                self.both(Unvalued(name), word, world, full[:at] + full[at + 1:])
                self.both(Unvalued(name), word, world, full[:at])
                self.both(Unvalued(name), word, world, [["z", 1]] + [list(pair) for pair in full[:at]])


if __name__ == "__main__":
    unittest.main()
