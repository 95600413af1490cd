"""Points 62 and 63: write_world and read_world."""

import random
import unittest

from onceread.errors import BadNote
from onceread.worldnotes import read_world, write_world
from onceread.worlds import World

import samples
from samples import CHAIN, check_error

SIGNS = "0123456789 abz,:-+.\n\tA\r\x0b\xa0\u0661\u00b2"


class Plain:
    """The lines that may stand where, told from the lines before: a reader that knows one way to write."""

    def __init__(self, text):
        self.lines = text.split("\n")

    def first_bad(self):
        """The number of the first bad line, or None."""
        sizes = {"world %d" % size: size for size in range(2, 401)}
        if self.lines[0] not in sizes:
            return 1
        size, names = sizes[self.lines[0]], []
        for number, line in enumerate(self.lines[1:], 2):
            name = line.split(" ")[0]
            if len(names) == 12 or names and name <= names[-1] or not self.is_written(line, size):
                return number
            names.append(name)
        return None

    def is_written(self, line, size):
        """Is the line the one that is written for some relation?"""
        try:
            name, arity, *things = line.replace(",", "").replace(":", "").split(" ")
            width = int(arity)
            row = [int(thing) for thing in things]
            rows = [tuple(row[at:at + width]) for at in range(0, len(row), width)]
            return write_world(World(size, [(name, width, rows)])) == "world %d\n%s" % (size, line)
        except ValueError:
            return False


def changed(chance, text):
    """The text with one sign put in, left out or exchanged."""
    at = chance.randrange(len(text) + 1)
    way = chance.randrange(3)
    sign = chance.choice(SIGNS)
    if way == 0:
        return text[:at] + sign + text[at:]
    return text[:at] + (sign if way == 1 else "") + text[at + 1:]


class Write(unittest.TestCase):
    def check(self, world, *lines):
        text = "\n".join(lines)
        self.assertEqual(write_world(world), text)
        self.assertEqual(write_world(world=world), text)
        self.assertEqual(read_world(text), world)
        self.assertEqual(read_world(text=text), world)

    def test_small(self):
        self.check(World(2), "world 2")
        self.check(World(400), "world 400")
        self.check(CHAIN, "world 3", "edge 2: 0 1, 1 2", "mark 1: 1")
        self.check(World(10, [("mark", 1, [])]), "world 10", "mark 1:")
        self.check(World(2, [("b", 1, [(1,), (0,)]), ("a", 3, [(0, 1, 0), (0, 0, 1)]), ("a1", 2, [])]),
                   "world 2", "a 3: 0 0 1, 0 1 0", "a1 2:", "b 1: 0, 1")
        self.check(World(400, [("abcdefghijkl", 3, [(399, 0, 10)])]), "world 400", "abcdefghijkl 3: 399 0 10")
        # Rows ascend as numbers, not as texts.
        self.check(World(20, [("edge", 2, [(10, 1), (9, 2), (2, 10), (2, 9)])]), "world 20", "edge 2: 2 9, 2 10, 9 2, 10 1")
        names = ["r%d" % at for at in range(12)]
        self.check(World(2, [(name, 1, []) for name in names]), "world 2", *[name + " 1:" for name in sorted(names)])

    def test_random(self):
        chance = random.Random(63)
        for _ in range(200):
            size = chance.choice((2, 3, 11, 400))
            relations = []
            for name in chance.sample(("edge", "a", "z", "mark", "e1", "tri", "world", "abcdefghijkl"), chance.randrange(6)):
                arity = chance.randrange(1, 4)
                rows = [[chance.randrange(size) for _ in range(arity)] for _ in range(chance.randrange(6))]
                relations.append((name, arity, rows))
            world = World(size, relations)
            found = read_world(write_world(world))
            self.assertEqual(found, world)
            self.assertIsInstance(found, World)
            self.assertEqual(write_world(found), write_world(world))


class Read(unittest.TestCase):
    def check(self, line, *lines):
        text = "\n".join(lines)
        with self.subTest(text=text):
            self.assertEqual(Plain(text).first_bad(), line)
            check_error(self, BadNote(line), read_world, text)

    def test_first_line(self):
        for wrong in ("", "world", "world ", "world 1", "world 0", "world 401", "world 02", "world +2", "world -2", "World 2",
                      "world  2", " world 2", "world 2 ", "world 2:", "world\t2", "world 2 2", "worlds 2", "world two",
                      "world 2.0", "world \u0662", "world \u00b2", "world 1" + "0" * 5000, "edge 1:", "world2", "world 2\r"):
            self.check(1, wrong)
            self.check(1, wrong, "edge 2: 0 1")
            self.check(1, wrong, "edge")

    def test_line_feeds(self):
        self.check(2, "world 2", "")
        self.check(3, "world 2", "mark 1: 0", "")
        self.check(2, "world 2", "", "mark 1: 0")
        self.check(1, "", "world 2")
        self.check(2, "world 2", "mark 1: 0\r")

    def test_relations(self):
        for wrong in ("mark", "mark 1", "mark:", "mark 0:", "mark 4:", "mark 01:", "mark +1:", "mark  1:", " mark 1:", "mark 1 :",
                      "mark 1: ", "mark 1:0", "mark 1:  0", "mark 1: 0 ", "mark 1: 0,", "mark 1: 0,1", "mark 1: 0 , 1",
                      "mark 1: 0,  1", "mark 1: 0, 1,", "mark 1: 0, 1, ", "mark 1: , 0", "mark 1: 0,, 1", "mark 1: 0 1",
                      "mark 1: 00", "mark 1: -0", "mark 1: 01", "mark 1: +1", "mark 1: 3", "mark 1: 1, 0", "mark 1: 0, 0",
                      "mark 1: x", "mark 1: 0: 1", "mark 1:: 0", "mark 1: \u0661", "mark 1: " + "1" * 5000, "mark 2: 0",
                      "mark 2: 0 1 2", "mark 2: 0 1, 0", "mark 2: 0 1, 0 1", "mark 2: 0 1, 0 0", "mark 2: 0  1",
                      "mark 3: 0 1", "Mark 1: 0", "9mark 1: 0", "walk 1: 0", "not 1:", " 1: 0", "abcdefghijklm 1: 0",
                      "ma_k 1: 0", "m\u00e4rk 1: 0", "mark 1 1: 0", "mark one: 0", "world 3"):
            self.check(2, "world 3", wrong)
            self.check(2, "world 3", wrong, "zoo 1:")
            self.check(3, "world 3", "edge 2: 0 1", wrong)

    def test_order_of_names(self):
        self.check(3, "world 2", "b 1:", "a 1:")
        self.check(3, "world 2", "b 1:", "b 1:")
        self.check(3, "world 2", "b 1:", "b 2: 0 1")
        self.check(4, "world 2", "a 1:", "c 1:", "b 1:")
        self.check(3, "world 2", "ab 1:", "a1 1:")
        self.assertEqual(read_world("world 2\na 1:\na1 1:\nab 1:").names, ("a", "a1", "ab"))

    def test_too_many_relations(self):
        lines = ["r%s 1:" % sign for sign in "abcdefghijklmn"]
        self.assertEqual(len(read_world("\n".join(["world 2"] + lines[:12])).names), 12)
        self.check(14, "world 2", *lines[:13])
        self.check(14, "world 2", *lines)

    def test_one_sign_changed(self):
        for world in (CHAIN, World(12, [("a", 3, [(0, 1, 10), (11, 2, 3)]), ("b", 1, []), ("c", 2, [(1, 11)])])):
            text = write_world(world)
            others = []
            for at in range(len(text) + 1):
                for sign in SIGNS:
                    others += [text[:at] + sign + text[at:], text[:at] + sign + text[at + 1:]]
                others.append(text[:at] + text[at + 1:])
            self.check_all(others)

    def test_more_signs_changed(self):
        chance = random.Random(64)
        others = []
        for _ in range(3000):
            text = write_world(samples.some_world(chance, chance.choice((2, 3, 11))))
            for _ in range(chance.randrange(1, 4)):
                text = changed(chance, text)
            others.append(text)
        self.check_all(others)

    def check_all(self, others):
        good = 0
        for other in others:
            bad = Plain(other).first_bad()
            if bad is None:
                good += 1
                self.assertEqual(write_world(read_world(other)), other)
            else:
                check_error(self, BadNote(bad), read_world, other)
        self.assertGreater(good, 10)


if __name__ == "__main__":
    unittest.main()
