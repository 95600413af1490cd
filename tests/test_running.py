"""Points 23, 24 and 27: verdicts, and the facts that are looked at."""

import itertools
import random
import unittest

from onceread.errors import BadGiven, NoSuchRelation
from onceread.judges import Judge
from onceread.running import agrees, looks, verdict
from onceread.worlds import World

CHAIN = World(3, [("edge", 2, [(0, 1), (1, 2)]), ("mark", 1, [(1,)]), ("tri", 3, [(0, 1, 2)])])
TAKE, REFUSE = ("take",), ("refuse",)


def told(judge, world, letters, given):
    """The verdict and the facts looked at, with a list of all standings since the last letter."""
    line, row = 0, list(given) + [0] * (judge.registers - judge.given)
    rest, since, seen = list(letters), [], set()
    while True:
        if (line, tuple(row)) in since:
            return "endless", seen
        since.append((line, tuple(row)))
        instruction = judge.lines[line]
        word, jump = instruction[0], False
        if word in ("take", "refuse"):
            return "taken" if word == "take" and not rest else "refused", seen
        if word in ("read", "claim"):
            if not rest or not 0 <= rest[0] < (2 if word == "claim" else world.size):
                return "refused", seen
            letter, since = rest.pop(0), []
            if word == "read":
                row[instruction[1]] = letter
            jump = word == "claim" and letter == 1
        elif word == "zero":
            row[instruction[1]] = 0
        elif word == "copy":
            row[instruction[1]] = row[instruction[2]]
        elif word == "step":
            jump = row[instruction[1]] == world.size - 1
            row[instruction[1]] = 0 if jump else row[instruction[1]] + 1
        elif word == "first":
            jump = row[instruction[1]] == 0
        elif word == "same":
            jump = row[instruction[1]] == row[instruction[2]]
        elif word == "fact":
            fact = (instruction[1], tuple(row[at] for at in instruction[2]))
            jump = fact in world.facts
            seen.add(fact + (jump,))
        else:
            jump = True
        line = instruction[-1] if jump else line + 1


def some_judge(chance, registers=2, lines=6):
    def register():
        return chance.randrange(registers)

    def line():
        return chance.randrange(lines)

    made = []
    for at in range(lines):
        words = ("go", "take", "refuse") if at == lines - 1 else (
            "read", "claim", "read", "zero", "copy", "step", "step", "first", "same", "fact", "fact", "go", "take")
        word = chance.choice(words)
        made.append({"read": ("read", register()), "claim": ("claim", line()), "zero": ("zero", register()),
                     "copy": ("copy", register(), register()), "step": ("step", register(), line()),
                     "first": ("first", register(), line()), "same": ("same", register(), register(), line()),
                     "fact": chance.choice((("fact", "edge", (register(), register()), line()),
                                            ("fact", "mark", (register(),), line()))),
                     "go": ("go", line()), "take": TAKE, "refuse": REFUSE}[word])
    return Judge(registers, made, chance.randrange(registers + 1))


class Verdicts(unittest.TestCase):
    def check(self, judge, letters, expected, given=(), world=CHAIN):
        with self.subTest(lines=judge.lines, letters=letters, given=given):
            self.assertEqual(verdict(judge, world, letters, given), expected)
            self.assertEqual(verdict(judge, world, list(letters), list(given)), expected)

    def test_take_and_refuse(self):
        self.check(Judge(0, [TAKE]), (), "taken")
        self.check(Judge(0, [TAKE]), (0,), "refused")
        self.check(Judge(0, [REFUSE]), (), "refused")
        self.check(Judge(0, [REFUSE]), (0,), "refused")

    def test_by_name(self):
        judge = Judge(1, [("read", 0), TAKE], 1)
        self.assertEqual(verdict(judge=judge, world=CHAIN, letters=[2], given=[0]), "taken")

    def test_read(self):
        judge = Judge(1, [("read", 0), TAKE])
        self.check(judge, (), "refused")
        for letter in (0, 1, 2):
            self.check(judge, (letter,), "taken")
            self.check(judge, (letter, 0), "refused")
        for letter in (3, -1, 4, 399, 400, 10 ** 9, -(10 ** 9)):
            self.check(judge, (letter,), "refused")
        judge = Judge(2, [("read", 0), ("read", 1), ("same", 0, 1, 4), REFUSE, TAKE])
        for letters in itertools.product(range(3), repeat=2):
            self.check(judge, letters, "taken" if letters[0] == letters[1] else "refused")
        self.check(judge, (1,), "refused")
        self.check(judge, (1, 3), "refused")

    def test_claim(self):
        judge = Judge(0, [("claim", 2), TAKE, ("claim", 1), REFUSE])
        self.check(judge, (0,), "taken")
        self.check(judge, (1, 1), "taken")
        self.check(judge, (1, 0), "refused")
        self.check(judge, (1,), "refused")
        self.check(judge, (), "refused")
        for letter in (2, 3, -1, 400):
            self.check(judge, (letter,), "refused")
            self.check(judge, (1, letter), "refused")
        self.check(Judge(0, [("claim", 1), TAKE]), (2,), "refused", world=World(2))

    def test_letters_are_looked_at_when_they_are_read(self):
        self.check(Judge(1, [("read", 0), REFUSE]), (0, 999), "refused")
        self.check(Judge(0, [("go", 0)]), (999,), "endless")

    def test_zero_and_copy(self):
        judge = Judge(2, [("zero", 0), ("same", 0, 1, 3), REFUSE, TAKE], 2)
        self.check(judge, (), "taken", (2, 0))
        self.check(judge, (), "refused", (2, 2))
        judge = Judge(2, [("copy", 0, 1), ("same", 0, 1, 3), REFUSE, ("first", 1, 5), TAKE, REFUSE], 2)
        self.check(judge, (), "taken", (0, 2))
        self.check(judge, (), "refused", (2, 0))

    def test_step(self):
        judge = Judge(2, [("step", 0, 3), ("same", 0, 1, 4), REFUSE, ("first", 0, 5), TAKE, ("go", 5)], 2)
        self.check(judge, (), "taken", (0, 1))
        self.check(judge, (), "taken", (1, 2))
        self.check(judge, (), "refused", (1, 1))
        self.check(judge, (), "endless", (2, 0))

    def test_first_and_same_and_go(self):
        judge = Judge(1, [("first", 0, 2), REFUSE, TAKE], 1)
        self.check(judge, (), "taken", (0,))
        self.check(judge, (), "refused", (1,))
        judge = Judge(2, [("same", 0, 1, 2), REFUSE, TAKE], 2)
        self.check(judge, (), "taken", (2, 2))
        self.check(judge, (), "refused", (2, 1))
        self.check(Judge(0, [("go", 2), REFUSE, TAKE]), (), "taken")

    def test_fact(self):
        judge = Judge(3, [("fact", "edge", (1, 0), 2), REFUSE, ("fact", "mark", (0,), 4), REFUSE, TAKE], 2)
        self.check(judge, (), "taken", (1, 0))
        self.check(judge, (), "refused", (0, 1))
        self.check(judge, (), "refused", (2, 1))
        judge = Judge(3, [("fact", "tri", (2, 0, 1), 2), REFUSE, TAKE], 3)
        self.check(judge, (), "taken", (1, 2, 0))
        self.check(judge, (), "refused", (0, 1, 2))

    def test_given_things_and_zeros(self):
        judge = Judge(3, [("first", 2, 2), REFUSE, ("first", 0, 4), ("first", 1, 5), REFUSE, TAKE], 2)
        self.check(judge, (), "taken", (1, 0))
        self.check(judge, (), "refused", (0, 0))
        self.check(judge, (), "refused", (1, 1))

    def test_endless(self):
        self.check(Judge(0, [("go", 0)]), (), "endless")
        self.check(Judge(0, [("go", 1), ("go", 0)]), (1, 2), "endless")
        self.check(Judge(1, [("step", 0, 0), ("go", 0)]), (), "endless")
        self.check(Judge(1, [("step", 0, 2), ("go", 0), REFUSE]), (), "refused")

    def test_a_standing_again_with_a_letter_between(self):
        judge = Judge(1, [("zero", 0), ("claim", 0), TAKE])
        self.check(judge, (1, 1, 1, 0), "taken")
        self.check(judge, (1,) * 50, "refused")
        self.check(Judge(1, [("read", 0), ("zero", 0), ("go", 0)]), (0, 0, 0), "refused")
        self.check(Judge(0, [("claim", 2), TAKE, ("go", 2)]), (1, 0), "endless")

    def test_long_silence_is_not_endless(self):
        # Counts through all rows of three registers, and takes only then.
        judge = Judge(3, [("step", 0, 2), ("go", 0), ("step", 1, 4), ("go", 0), ("step", 2, 6), ("go", 0), TAKE])
        self.check(judge, (), "taken", world=World(9))
        self.check(judge, (), "taken", world=World(2))
        judge = Judge(3, [("step", 0, 2), ("go", 0), ("step", 1, 4), ("go", 0), ("step", 2, 0), ("go", 0)])
        self.check(judge, (), "endless", world=World(9))

    def test_many_registers(self):
        judge = Judge(400, [("read", 399), ("copy", 0, 399), ("first", 0, 4), TAKE, REFUSE], 1)
        self.check(judge, (2,), "taken", (0,))
        self.check(judge, (0,), "refused", (1,))

    def test_random_judges(self):
        chance = random.Random(24)
        words = {}
        for _ in range(1500):
            judge = some_judge(chance)
            letters = [chance.choice((0, 1, 0, 1, 2, 3)) for _ in range(chance.randrange(5))]
            given = [chance.randrange(3) for _ in range(judge.given)]
            expected, seen = told(judge, CHAIN, letters, given)
            words[expected] = words.get(expected, 0) + 1
            self.check(judge, letters, expected, given)
            self.assertEqual(looks(judge, CHAIN, letters, given), tuple(sorted(seen)))
        self.assertTrue(all(words[word] > 50 for word in ("taken", "refused", "endless")))


class Errors(unittest.TestCase):
    CALLS = (lambda judge, given: verdict(judge, CHAIN, (), given), lambda judge, given: looks(judge, CHAIN, (), given))

    def test_no_such_relation_comes_first(self):
        for lines, name in (([("fact", "link", (0,), 0), TAKE], "link"), ([("fact", "edge", (0,), 0), TAKE], "edge"),
                            ([TAKE, ("fact", "mark", (0, 0), 0), TAKE], "mark"),
                            ([("fact", "b", (0,), 0), ("fact", "a", (0,), 0), TAKE], "a")):
            for given in ((0,), (), None, (3,), (True,)):
                for call in self.CALLS:
                    with self.assertRaises(NoSuchRelation) as caught:
                        call(Judge(1, lines, 1), given)
                    self.assertEqual(caught.exception.name, name)

    def test_bad_given(self):
        judge = Judge(3, [TAKE], 2)
        for given in (None, True, 0, 5, "", "01", (), (0,), (0, 1, 2), [0, 3], (3, 0), (-1, 0), (0, True), (False, 0),
                      (0, None), (0, "1"), (0, (1,)), [[0], [1]], ((0, 1),)):
            for call in self.CALLS:
                with self.subTest(given=given):
                    self.assertRaises(BadGiven, call, judge, given)
        for given in (None, True, 0, "", (0,), [0]):
            for call in self.CALLS:
                self.assertRaises(BadGiven, call, Judge(2, [TAKE]), given)

    def test_given_is_needed(self):
        self.assertRaises(BadGiven, verdict, Judge(1, [TAKE], 1), CHAIN, ())
        self.assertRaises(BadGiven, looks, Judge(1, [TAKE], 1), CHAIN, ())

    def test_given_sequences_are_not_changed(self):
        judge = Judge(2, [("zero", 0), ("read", 1), TAKE], 2)
        given, letters = [2, 1], [0]
        self.assertEqual(verdict(judge, CHAIN, letters, given), "taken")
        looks(judge, CHAIN, letters, given)
        self.assertEqual((given, letters), ([2, 1], [0]))


class Looks(unittest.TestCase):
    JUDGE = Judge(2, [("read", 0), ("read", 1), ("fact", "edge", (0, 1), 5), ("fact", "mark", (0,), 6), REFUSE,
                      TAKE, ("go", 6)])

    def test_taken(self):
        self.assertEqual(looks(self.JUDGE, CHAIN, (0, 1)), (("edge", (0, 1), True),))
        self.assertEqual(looks(judge=self.JUDGE, world=CHAIN, letters=[1, 2], given=[]), (("edge", (1, 2), True),))

    def test_refused(self):
        self.assertEqual(looks(self.JUDGE, CHAIN, (2, 0)), (("edge", (2, 0), False), ("mark", (2,), False)))
        self.assertEqual(looks(self.JUDGE, CHAIN, (0, 1, 1)), (("edge", (0, 1), True),))
        self.assertEqual(looks(self.JUDGE, CHAIN, (0,)), ())
        self.assertEqual(looks(self.JUDGE, CHAIN, (7, 1)), ())

    def test_endless(self):
        self.assertEqual(looks(self.JUDGE, CHAIN, (1, 0)), (("edge", (1, 0), False), ("mark", (1,), True)))

    def test_endless_with_facts_in_the_circle(self):
        judge = Judge(2, [("fact", "mark", (0,), 1), ("step", 0, 2), ("fact", "edge", (0, 0), 0), ("go", 0)])
        self.assertEqual(looks(judge, CHAIN, ()), (
            ("edge", (0, 0), False), ("edge", (1, 1), False), ("edge", (2, 2), False),
            ("mark", (0,), False), ("mark", (1,), True), ("mark", (2,), False)))

    def test_ascending_and_each_once(self):
        judge = Judge(3, [("fact", "tri", (0, 0, 0), 1), ("fact", "mark", (2,), 2), ("fact", "mark", (1,), 3),
                          ("fact", "edge", (1, 2), 4), ("fact", "edge", (0, 2), 5), ("fact", "mark", (1,), 6), TAKE], 3)
        found = looks(judge, CHAIN, (), (0, 1, 2))
        self.assertEqual(found, (("edge", (0, 2), False), ("edge", (1, 2), True), ("mark", (1,), True),
                                 ("mark", (2,), False), ("tri", (0, 0, 0), False)))
        for name, row, stands in found:
            self.assertIsInstance(row, tuple)
            self.assertIsInstance(stands, bool)
        self.assertIsInstance(found, tuple)
        self.assertTrue(all(isinstance(triple, tuple) for triple in found))

    def test_only_what_was_carried_out(self):
        judge = Judge(1, [("first", 0, 2), ("fact", "mark", (0,), 2), TAKE], 1)
        self.assertEqual(looks(judge, CHAIN, (), (0,)), ())
        self.assertEqual(looks(judge, CHAIN, (), (1,)), (("mark", (1,), True),))

    def test_worlds_that_agree_give_the_same_verdict(self):
        chance = random.Random(25)
        agreed = 0
        for _ in range(600):
            judge = some_judge(chance)
            letters = [chance.choice((0, 1, 2)) for _ in range(chance.randrange(4))]
            given = [chance.randrange(3) for _ in range(judge.given)]
            other = CHAIN
            for _ in range(3):
                row = (chance.randrange(3), chance.randrange(3))
                other = chance.choice((other.put, other.drop))("edge", row)
            looked = looks(judge, CHAIN, letters, given)
            if agrees(other, looked):
                agreed += 1
                self.assertEqual(verdict(judge, other, letters, given), verdict(judge, CHAIN, letters, given))
                self.assertEqual(looks(judge, other, letters, given), looked)
        self.assertGreater(agreed, 100)


class Agrees(unittest.TestCase):
    def test_agrees(self):
        for looked in ((), [], (("edge", (0, 1), True),), [["edge", [0, 1], True], ("edge", (1, 0), False)],
                       [("mark", [1], True), ("mark", (0,), False), ("edge", [2, 2], False)]):
            self.assertIs(agrees(CHAIN, looked), True)
        self.assertIs(agrees(world=CHAIN, looked=[("mark", (1,), True)]), True)

    def test_does_not_agree(self):
        for looked in ([("edge", (0, 1), False)], (("edge", (1, 0), True),),
                       [("mark", (1,), True), ("edge", (1, 2), True), ["mark", [2], True]],
                       [("mark", (1,), False), ("mark", (0,), False)]):
            self.assertIs(agrees(CHAIN, looked), False)

    def test_names_that_are_no_relation(self):
        for name in ("link", "", "Edge", "not", "abcdefghijklmnop"):
            self.assertIs(agrees(CHAIN, [(name, (0, 1), False)]), True)
            self.assertIs(agrees(CHAIN, [(name, (0, 1), True)]), False)

    def test_rows_that_are_no_rows(self):
        for row in ((), (0,), (0, 1, 2), (0, 3), (-1, 0), (False, True), (0, True), (None, 0), ("0", "1"), ([0], [1]),
                    ((0, 1),)):
            for kind in (tuple, list):
                self.assertIs(agrees(CHAIN, [("edge", kind(row), False)]), True)
                self.assertIs(agrees(CHAIN, [("edge", kind(row), True)]), False)
        self.assertIs(agrees(CHAIN, [("mark", (True,), True)]), False)
        self.assertIs(agrees(CHAIN, [("mark", (1, 1), True)]), False)


if __name__ == "__main__":
    unittest.main()
