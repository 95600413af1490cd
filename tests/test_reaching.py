"""Points 23 and 28 to 30: moves, reached standings, can_take."""

import itertools
import random
import unittest

from onceread.errors import BadGiven, BadStanding, NoSuchRelation, TooMany
from onceread.judges import Judge
from onceread.reaching import can_take, moves, reached
from onceread.running import verdict
from onceread.worlds import World

CHAIN = World(3, [("edge", 2, [(0, 1), (1, 2)]), ("mark", 1, [(1,)]), ("tri", 3, [(0, 1, 2)])])
TAKE, REFUSE = ("take",), ("refuse",)
# Reads letter by letter into its only register, or takes.
LETTERS = Judge(1, [("claim", 2), TAKE, ("read", 0), ("go", 0)])
NO_STANDINGS = (None, True, 0, "", "ab", (), [], (0,), (0, (0, 0), 0), (None, (0, 0)), (True, (0, 0)), (False, (0, 0)),
                ("0", (0, 0)), ((0,), (0, 0)), (-1, (0, 0)), (2, (0, 0)), (0, None), (0, 0), (0, True), (0, "00"), (0, ""),
                (0, ()), (0, (0,)), (0, (0, 0, 0)), (0, (0, 3)), (0, (-1, 0)), (0, (0, True)), (0, (False, 0)),
                (0, (0, None)), (0, ("0", 0)), (0, ((0,), 0)), [0, [[0], 0]])


def some_judge(chance, lines=6):
    def register():
        return chance.randrange(2)

    def line():
        return chance.randrange(lines)

    made = [chance.choice((
        ("read", register()), ("claim", line()), ("read", register()), ("zero", register()),
        ("copy", register(), register()), ("step", register(), line()), ("first", register(), line()),
        ("same", register(), register(), line()), ("fact", "edge", (register(), register()), line()),
        ("go", line()), REFUSE, TAKE if chance.random() < 0.3 else REFUSE)) for _ in range(lines - 1)]
    return Judge(2, made + [chance.choice((("go", line()), REFUSE))], chance.randrange(3))


class Moves(unittest.TestCase):
    def check(self, instruction, row, expected, world=CHAIN):
        """expected: pairs of a letter, and a pair of a line and a row."""
        judge = Judge(3, [REFUSE, instruction, REFUSE, TAKE])
        with self.subTest(instruction=instruction, row=row):
            for standing in ((1, row), [1, list(row)], (1, list(row))):
                found = moves(judge, world, standing)
                self.assertEqual(found, tuple(expected))
                for pair in found:
                    self.assertIsInstance(pair, tuple)
                    self.assertIsInstance(pair[1], tuple)
                    self.assertIsInstance(pair[1][1], tuple)

    def test_read(self):
        self.check(("read", 1), (2, 2, 0), [(0, (2, (2, 0, 0))), (1, (2, (2, 1, 0))), (2, (2, (2, 2, 0)))])
        self.check(("read", 0), (1, 0, 0), [(0, (2, (0, 0, 0))), (1, (2, (1, 0, 0)))], World(2))
        self.assertEqual(len(moves(Judge(1, [("read", 0), TAKE]), World(400), (0, (0,)))), 400)

    def test_claim(self):
        self.check(("claim", 3), (2, 1, 0), [(0, (2, (2, 1, 0))), (1, (3, (2, 1, 0)))])
        self.check(("claim", 2), (2, 1, 0), [(0, (2, (2, 1, 0))), (1, (2, (2, 1, 0)))])
        for letter, (pair, _) in enumerate(moves(Judge(0, [("claim", 0), TAKE]), CHAIN, (0, ()))):
            self.assertNotIsInstance(pair, bool)
            self.assertEqual(pair, letter)

    def test_take_and_refuse(self):
        self.check(TAKE, (0, 1, 2), [])
        self.check(REFUSE, (0, 1, 2), [])

    def test_zero_and_copy(self):
        self.check(("zero", 2), (2, 1, 2), [(None, (2, (2, 1, 0)))])
        self.check(("copy", 0, 2), (2, 1, 0), [(None, (2, (0, 1, 0)))])
        self.check(("copy", 2, 2), (2, 1, 0), [(None, (2, (2, 1, 0)))])

    def test_step(self):
        self.check(("step", 0, 3), (0, 1, 2), [(None, (2, (1, 1, 2)))])
        self.check(("step", 1, 3), (0, 1, 2), [(None, (2, (0, 2, 2)))])
        self.check(("step", 2, 3), (0, 1, 2), [(None, (3, (0, 1, 0)))])
        self.check(("step", 2, 3), (0, 1, 2), [(None, (2, (0, 1, 3)))], World(4))

    def test_first_and_same(self):
        self.check(("first", 0, 3), (0, 1, 2), [(None, (3, (0, 1, 2)))])
        self.check(("first", 1, 3), (0, 1, 2), [(None, (2, (0, 1, 2)))])
        self.check(("same", 0, 2, 3), (1, 0, 1), [(None, (3, (1, 0, 1)))])
        self.check(("same", 0, 1, 3), (1, 0, 1), [(None, (2, (1, 0, 1)))])

    def test_fact(self):
        self.check(("fact", "edge", (2, 0), 3), (1, 2, 0), [(None, (3, (1, 2, 0)))])
        self.check(("fact", "edge", (0, 2), 3), (1, 2, 0), [(None, (2, (1, 2, 0)))])
        self.check(("fact", "mark", (0,), 3), (1, 2, 0), [(None, (3, (1, 2, 0)))])
        self.check(("fact", "mark", (1,), 3), (1, 2, 0), [(None, (2, (1, 2, 0)))])
        self.check(("fact", "tri", (2, 0, 1), 3), (1, 2, 0), [(None, (3, (1, 2, 0)))])

    def test_go(self):
        self.check(("go", 3), (1, 2, 0), [(None, (3, (1, 2, 0)))])
        self.check(("go", 1), (1, 2, 0), [(None, (1, (1, 2, 0)))])

    def test_any_standing(self):
        judge = Judge(2, [("step", 0, 1), TAKE], 1)
        self.assertEqual(moves(judge=judge, world=CHAIN, standing=(0, (1, 2))), ((None, (1, (2, 2))),))

    def test_standing_is_not_changed(self):
        standing = [0, [1, 2]]
        moves(Judge(2, [("read", 0), TAKE]), CHAIN, standing)
        moves(Judge(2, [("zero", 0), TAKE]), CHAIN, standing)
        self.assertEqual(standing, [0, [1, 2]])

    def test_errors(self):
        judge = Judge(2, [("read", 0), TAKE], 1)
        for standing in NO_STANDINGS:
            with self.subTest(standing=standing):
                self.assertRaises(BadStanding, moves, judge, CHAIN, standing)
        self.assertRaises(BadStanding, moves, Judge(0, [TAKE]), CHAIN, (0, (0,)))
        for line, name in ((("fact", "link", (0,), 0), "link"), (("fact", "edge", (0,), 0), "edge")):
            for standing in ((0, (0, 0)), (7, ()), None):
                with self.assertRaises(NoSuchRelation) as caught:
                    moves(Judge(2, [line, TAKE]), CHAIN, standing)
                self.assertEqual(caught.exception.name, name)


class Reached(unittest.TestCase):
    def test_order(self):
        self.assertEqual(reached(LETTERS, CHAIN), (
            (0, (0,)), (1, (0,)), (2, (0,)), (3, (0,)), (3, (1,)), (3, (2,)), (0, (1,)), (0, (2,)), (1, (1,)),
            (2, (1,)), (1, (2,)), (2, (2,))))

    def test_beginning_first(self):
        judge = Judge(3, [("step", 2, 0), ("claim", 0), TAKE], 2)
        self.assertEqual(reached(judge, CHAIN, [2, 1])[:3], ((0, (2, 1, 0)), (1, (2, 1, 1)), (2, (2, 1, 1))))
        self.assertEqual(reached(judge=Judge(0, [REFUSE]), world=CHAIN, given=[]), ((0, ()),))

    def test_each_once_and_in_order_of_the_first_meeting(self):
        judge = Judge(1, [("claim", 2), ("go", 3), ("go", 0), ("claim", 1), TAKE])
        self.assertEqual(reached(judge, CHAIN), tuple((line, (0,)) for line in (0, 1, 2, 3, 4)))
        judge = Judge(1, [("claim", 3), ("claim", 4), TAKE, ("go", 2), ("go", 3)])
        self.assertEqual(reached(judge, CHAIN), tuple((line, (0,)) for line in (0, 1, 3, 2, 4)))

    def test_kinds(self):
        for standing in reached(LETTERS, CHAIN):
            self.assertIsInstance(standing, tuple)
            self.assertIsInstance(standing[1], tuple)
        self.assertIsInstance(reached(LETTERS, CHAIN), tuple)

    def test_limits(self):
        for limit in (12, 13, 20000):
            self.assertEqual(len(reached(LETTERS, CHAIN, limit=limit)), 12)
        for limit in (1, 2, 10, 11):
            with self.assertRaises(TooMany) as caught:
                reached(LETTERS, CHAIN, (), limit=limit)
            self.assertEqual(caught.exception.limit, limit)
        self.assertEqual(reached(Judge(0, [TAKE]), CHAIN, limit=1), ((0, ()),))

    def test_limit_is_handed_in_by_name(self):
        with self.assertRaises(TypeError):
            reached(LETTERS, CHAIN, (), 20)
        with self.assertRaises(TypeError):
            can_take(LETTERS, CHAIN, (), 20)

    def test_limit_of_twenty_thousand(self):
        # Counts through all rows of three registers: in a world of 10 things 1000 rows.
        lines = [("step", 0, 2), ("go", 0), ("step", 1, 4), ("go", 0), ("step", 2, 6), ("go", 0), TAKE]
        many = len(reached(Judge(3, lines), World(10)))
        self.assertLess(many, 20000)
        with self.assertRaises(TooMany) as caught:
            reached(Judge(3, lines), World(30))
        self.assertEqual(caught.exception.limit, 20000)
        with self.assertRaises(TooMany) as caught:
            can_take(Judge(3, lines), World(30))
        self.assertEqual(caught.exception.limit, 20000)
        chain = Judge(1, [("zero", 0)] * 19999 + [TAKE])
        self.assertEqual(len(reached(chain, CHAIN)), 20000)
        self.assertIs(can_take(chain, CHAIN), True)

    def test_random_judges(self):
        chance = random.Random(29)
        for _ in range(300):
            judge = some_judge(chance)
            given = tuple(chance.randrange(3) for _ in range(judge.given))
            expected = [(0, given + (0,) * (2 - judge.given))]
            for standing in expected:
                expected += [after for _, after in moves(judge, CHAIN, standing) if after not in expected]
            # A list that grows in its own loop: members that came twice in one row of moves are taken out.
            expected = list(dict.fromkeys(expected))
            self.assertEqual(reached(judge, CHAIN, given), tuple(expected))
            many = len(expected)
            self.assertEqual(len(reached(judge, CHAIN, given, limit=many)), many)
            if many > 1:
                self.assertRaises(TooMany, reached, judge, CHAIN, given, limit=many - 1)

    def test_errors(self):
        for call in (reached, can_take):
            for line, name in ((("fact", "link", (0,), 0), "link"), (("fact", "edge", (0,), 0), "edge")):
                for given in ((0,), (), None, (7,)):
                    with self.assertRaises(NoSuchRelation) as caught:
                        call(Judge(2, [line, TAKE], 1), CHAIN, given)
                    self.assertEqual(caught.exception.name, name)
            for given in (None, True, 0, "", "0", (), (0, 0), (3,), (-1,), (True,), (None,), ((0,),), ["0"]):
                with self.subTest(given=given):
                    self.assertRaises(BadGiven, call, Judge(2, [("read", 0), TAKE], 1), CHAIN, given, limit=1)


class CanTake(unittest.TestCase):
    def test_can_take(self):
        self.assertIs(can_take(LETTERS, CHAIN), True)
        self.assertIs(can_take(Judge(0, [TAKE]), CHAIN), True)
        self.assertIs(can_take(Judge(0, [REFUSE]), CHAIN), False)
        self.assertIs(can_take(Judge(0, [("go", 0), TAKE]), CHAIN), False)
        judge = Judge(2, [("read", 1), ("fact", "edge", (0, 1), 3), REFUSE, TAKE], 1)
        self.assertEqual([can_take(judge, CHAIN, [thing]) for thing in range(3)], [True, True, False])
        self.assertIs(can_take(judge=judge, world=CHAIN, given=(2,), limit=20), False)

    def test_limits(self):
        for limit in (12, 13):
            self.assertIs(can_take(LETTERS, CHAIN, limit=limit), True)
        # The second standing is at a take already.
        for limit in (1, 2, 3, 11):
            with self.assertRaises(TooMany) as caught:
                can_take(LETTERS, CHAIN, limit=limit)
            self.assertEqual(caught.exception.limit, limit)

    def test_exactly_if_a_paper_is_taken(self):
        chance = random.Random(30)
        world = World(2, [("edge", 2, [(0, 1)])])
        values = {True: 0, False: 0}
        for _ in range(250):
            judge = some_judge(chance, 5)
            given = tuple(chance.randrange(2) for _ in range(judge.given))
            # The least papers that judges of this size take have a few letters only.
            taken = any(verdict(judge, world, letters, given) == "taken"
                        for many in range(7) for letters in itertools.product((0, 1), repeat=many))
            found = can_take(judge, world, given)
            values[found] += 1
            if taken:
                self.assertIs(found, True)
            elif found:
                self.fail("no short paper is taken")
        self.assertTrue(values[True] > 20 and values[False] > 20)


if __name__ == "__main__":
    unittest.main()
