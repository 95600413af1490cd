"""Points 45, 46 and 48: is_counter_right and counter_paper."""

import random
import unittest

from onceread.counterpapers import counter_paper, is_counter_right
from onceread.errors import BadGiven, NoSuchRelation, TooLong, TooMany
from onceread.judges import Judge
from onceread.reaching import can_take, reached
from onceread.worlds import World

import naive
import samples
from samples import CHAIN, PAIR, check_error

TAKE, REFUSE = ("take",), ("refuse",)
# Reads 1 for ever, or is refused.
TALK = Judge(0, [("claim", 0), REFUSE])
# Takes a way along the edges from one given thing to the other one.
WAY = Judge(3, [("same", 0, 1, 5), ("read", 2), ("fact", "edge", (0, 2), 4), REFUSE, ("go", 6), TAKE, ("copy", 0, 2),
                ("go", 0)], 2)


def letters_of(text):
    return tuple(int(letter) for letter in text.replace(" ", "").replace(",", ""))


def all_counter_papers(judge, world, given, upto):
    return [letters for letters in samples.all_letters(world.size, upto)
            if naive.is_counter_right(judge, world, letters, given)]


class IsCounterRight(unittest.TestCase):
    def check(self, judge, letters, expected, world=CHAIN, given=()):
        letters = letters_of(letters) if isinstance(letters, str) else letters
        with self.subTest(letters=letters):
            self.assertIs(is_counter_right(judge, world, letters, given), expected)
            self.assertIs(is_counter_right(judge, world, list(letters), list(given)), expected)
            self.assertIs(naive.is_counter_right(judge, world, letters, given), expected)

    def test_one_standing(self):
        # The beginning is all that there is.
        for lines in ([REFUSE], [("go", 0)]):
            self.check(Judge(0, lines), "1", True)
            for letters in ("", "0", "11", "10", "2", "01"):
                self.check(Judge(0, lines), letters, False)
        # It is at a take.
        for letters in ("", "0", "1", "11", "00", "001"):
            self.check(Judge(0, [TAKE]), letters, False)

    def test_two_standings(self):
        # Round 0: line 0; line 1 by a claim 0. Round 1: the same.
        self.check(TALK, "1 10 1 10", True)
        # In the second round two moves are allowed: the first may lead to line 0 again.
        self.check(TALK, "1 10 1 110", True)
        self.check(TALK, "1 110 1 10", False)
        self.check(TALK, "1 10 1 1110", False)
        # The course ends where it comes to its standing for the first time.
        self.check(TALK, "1 1 10 1 10", False)
        for letters in ("", "1", "1 1", "1 10", "1 10 1", "1 10 1 1", "1 10 1 10 0", "1 10 1 10 1", "1 12 1 10",
                        "1 1 2 1 10", "2 10 1 10", "0 10 1 10", "1 10 1 11"):
            self.check(TALK, letters, False)

    def test_unclaimed(self):
        # Nothing leads to the take behind the refusal.
        judge = Judge(0, [("claim", 1), REFUSE, TAKE])
        self.check(judge, "1 10 0 100, 1 10 0 1 10 0", True)
        self.check(judge, "1 11 0 100, 1 10 0 1 11 0", True)
        # A count too small, in each of the rounds.
        self.check(judge, "1 10 0 000, 1 10 0 1 10 0", False)
        self.check(judge, "1 10 0 100, 1 10 0 1 0 0", False)
        self.check(judge, "1 10 0 100, 1 10 0 0 10 0", False)
        # A count too great: no course is so short.
        self.check(judge, "1 10 0 1 10 0, 1 10 0 1 10 0", False)
        self.check(judge, "1 10 0 100, 1 10 0 1 10 1", False)
        # A standing is not claimed although a move leads to it, or a claimed one is not there.
        self.check(judge, "1 0 100 0 100", False)
        self.check(judge, "0 100 1 10 0 100", False)
        # A claimed standing at a take.
        self.check(judge, "1 10 1", False)
        self.check(judge, "1 10 1 1", False)
        # A course that would have to go on from a refusal.
        self.check(judge, "1 10 0 100, 1 10 0 1 10 1 0", False)
        # Letters missing, and letters behind the end.
        right = letters_of("1 10 0 100, 1 10 0 1 10 0")
        for at in range(len(right)):
            self.check(judge, right[:at], False)
        for letter in (0, 1, 2, -1):
            self.check(judge, right + (letter,), False)

    def test_reached_take(self):
        for judge in (Judge(0, [("claim", 2), REFUSE, TAKE]), Judge(0, [("go", 1), TAKE])):
            for letters in samples.all_letters(2, 9):
                self.assertFalse(is_counter_right(judge, PAIR, letters))
        self.check(Judge(0, [("claim", 2), REFUSE, TAKE]), "1 10 1 1", False)

    def test_standings_in_ascending_order(self):
        # The lines come first: (0, (0,)), (0, (1,)), (1, (0,)), (1, (1,)).
        judge = Judge(1, [("read", 0), REFUSE])
        second = "1, 0 1 0 10 11, 10, 11"
        self.check(judge, "1, 0 1000, 10, 11" + second, True, PAIR)
        self.check(judge, "1, 10, 0 1000, 11" + second, False, PAIR)
        # Given things stand in the registers.
        judge = Judge(2, [("read", 0), REFUSE], 1)
        self.assertEqual(counter_paper(judge, PAIR, (1,)), naive.counter_paper(judge, PAIR, (1,)))
        self.assertNotEqual(counter_paper(judge, PAIR, (1,)), counter_paper(judge, PAIR, (0,)))

    def test_moves_without_letters(self):
        # Three moves to the last line: they count, although nothing is read.
        judge = Judge(0, [("go", 1), ("go", 2), ("go", 3), REFUSE])
        rounds = ("1 1 0 1000 0 1000", "1 1 1 0 1100", "1111", "1111")
        self.check(judge, "".join(rounds), True)
        self.check(judge, "".join(rounds[:3]), False)
        self.check(judge, "".join(rounds + rounds[3:]), False)
        # Line 2 is two moves away: it cannot be claimed in the first round, nor shown in the second one.
        self.check(judge, "1 1 1 0 1000" + "".join(rounds[1:]), False)
        self.check(judge, rounds[0] + "1 1 1 0 1110" + rounds[2] + rounds[3], False)

    def test_letters(self):
        judge = Judge(1, [("read", 0), ("claim", 1), REFUSE])
        right = counter_paper(judge, CHAIN)
        self.check(judge, right, True)
        for at in range(len(right)):
            for letter in (-1, 0, 1, 2, 3, 400):
                other = right[:at] + (letter,) + right[at + 1:]
                self.assertIs(is_counter_right(judge, CHAIN, other), naive.is_counter_right(judge, CHAIN, other))

    def test_facts(self):
        judge = Judge(2, [("fact", "edge", (0, 1), 2), REFUSE, TAKE], 2)
        for world in (CHAIN, PAIR):
            for given in ((0, 1), (1, 0)):
                found = counter_paper(judge, world, given)
                self.assertEqual(found is None, ("edge", given) in world)
                if found:
                    self.check(judge, found, True, world, given)
                    self.check(judge, found, False, world, given[::-1])

    def test_all_short_papers(self):
        chance = random.Random(45)
        right = 0
        for _ in range(150):
            world = samples.some_world(chance, 2)
            judge = samples.some_judge(chance, chance.choice((0, 0, 1)), chance.randrange(1, 4), takes=chance.random() < 0.5)
            given = [chance.randrange(2) for _ in range(judge.given)]
            expected = all_counter_papers(judge, world, given, 9)
            self.assertEqual([letters for letters in samples.all_letters(2, 9)
                              if is_counter_right(judge, world, letters, given)], expected)
            right += bool(expected)
            if can_take(judge, world, given):
                self.assertEqual(expected, [])
        self.assertGreater(right, 20)

    def test_damaged_papers(self):
        chance = random.Random(46)
        right, wrong = 0, 0
        for _ in range(250):
            world = samples.some_world(chance, chance.choice((2, 3)))
            judge = samples.some_judge(chance, chance.randrange(3), chance.randrange(2, 5))
            given = tuple(chance.randrange(world.size) for _ in range(judge.given))
            found = counter_paper(judge, world, given, longest=10 ** 6)
            if found is None or len(found) > 3000:
                continue
            self.assertTrue(is_counter_right(judge, world, found, given))
            for _ in range(6):
                other = samples.damaged(chance, found, world.size)
                expected = naive.is_counter_right(judge, world, other, given)
                self.assertIs(is_counter_right(judge, world, other, given), expected)
                right, wrong = right + expected, wrong + (not expected)
        self.assertGreater(right, 15)
        self.assertGreater(wrong, 200)

    def test_large_judges(self):
        # Only so far is gone as there are letters.
        judge = Judge(400, [("read", 399)] * 100 + [REFUSE], 3)
        self.assertFalse(is_counter_right(judge, World(400), (1, 0, 1), (0, 0, 0)))
        self.assertTrue(is_counter_right(judge=TALK, world=World(400), letters=(1, 1, 0, 1, 1, 0), given=()))

    def test_errors(self):
        for given in ((), (0,), (0, 3), (0, True), (0, None), None, 0, "00", (0, 0, 0)):
            check_error(self, BadGiven, is_counter_right, WAY, CHAIN, (1,), given)
            for relations in ((), (("edge", 1, []),), (("edge", 3, []),)):
                check_error(self, NoSuchRelation("edge"), is_counter_right, WAY, World(3, relations), (1,), given)
        check_error(self, BadGiven, is_counter_right, WAY, CHAIN, (1,))
        check_error(self, BadGiven, is_counter_right, TALK, CHAIN, (1,), (0,))


class CounterPaper(unittest.TestCase):
    def check(self, judge, letters, world=CHAIN, given=()):
        with self.subTest(letters=letters):
            found = counter_paper(judge, world, given)
            self.assertEqual(found, letters_of(letters))
            self.assertIsInstance(found, tuple)
            self.assertEqual(counter_paper(judge, world, list(given)), found)
            self.assertEqual(naive.counter_paper(judge, world, given), found)

    def test_small(self):
        self.check(Judge(0, [REFUSE]), "1")
        self.check(Judge(0, [("go", 0)]), "1")
        self.check(TALK, "1 10 1 10")
        self.check(Judge(0, [("claim", 1), REFUSE, TAKE]), "1 10 0 100, 1 10 0 1 10 0")
        self.check(Judge(0, [("go", 1), ("go", 2), ("go", 3), REFUSE]), "110 1000 0 1000, 1 1 1 0 1100, 1111, 1111")
        self.check(Judge(1, [("read", 0), REFUSE]), "1 0 1000 10 11, 1 0 1 0 10 11 10 11", PAIR)

    def test_least_of_all(self):
        chance = random.Random(47)
        found = 0
        for _ in range(120):
            world = samples.some_world(chance, 2)
            judge = samples.some_judge(chance, chance.choice((0, 0, 1)), chance.randrange(1, 4), takes=chance.random() < 0.5)
            given = tuple(chance.randrange(2) for _ in range(judge.given))
            least = counter_paper(judge, world, given)
            if least is None:
                self.assertTrue(can_take(judge, world, given))
            elif len(least) <= 12:
                self.assertEqual(all_counter_papers(judge, world, given, len(least))[0], least)
                found += 1
        self.assertGreater(found, 20)

    def test_random(self):
        chance = random.Random(48)
        found = {True: 0, False: 0}
        for _ in range(250):
            world = samples.some_world(chance, chance.choice((2, 3)))
            judge = samples.some_judge(chance, chance.randrange(3), chance.randrange(2, 5))
            given = tuple(chance.randrange(world.size) for _ in range(judge.given))
            least = counter_paper(judge, world, given, longest=10 ** 6)
            self.assertEqual(least is None, can_take(judge, world, given))
            found[least is None] += 1
            if least is not None:
                self.assertTrue(is_counter_right(judge, world, least, given))
                if len(least) < 2000:
                    self.assertEqual(least, naive.counter_paper(judge, world, given))
        self.assertGreater(min(found.values()), 50)

    def test_fewer_letters_with_more_moves(self):
        # To line 2 by two moves with two letters, or by three moves with one.
        judge = Judge(0, [("claim", 3), ("claim", 2), REFUSE, ("go", 4), ("go", 2)])
        self.check(judge, "1 10 010000 11 010000, 1 10 100 11 11, 1 10 11 11 11")

    def test_none(self):
        self.assertIsNone(counter_paper(Judge(0, [TAKE]), CHAIN))
        self.assertIsNone(counter_paper(Judge(0, [("claim", 2), REFUSE, TAKE]), CHAIN))
        self.assertIsNone(counter_paper(WAY, CHAIN, (0, 2)))
        self.assertIsNone(counter_paper(WAY, CHAIN, (1, 1), longest=0))
        self.assertIsNone(counter_paper(WAY, CHAIN, (0, 2), limit=300, longest=0))

    def test_longest(self):
        judge = Judge(0, [("claim", 1), REFUSE, TAKE])
        length = len(letters_of("1 10 0 100, 1 10 0 1 10 0"))
        self.assertEqual(len(counter_paper(judge, CHAIN, longest=length)), length)
        for longest in (0, 1, length - 1):
            check_error(self, TooLong(length), counter_paper, judge, CHAIN, longest=longest)
        self.assertEqual(counter_paper(judge=Judge(0, [REFUSE]), world=CHAIN, given=(), limit=1, longest=1), (1,))
        check_error(self, TooLong(1), counter_paper, Judge(0, [REFUSE]), CHAIN, limit=1, longest=0)

    def test_longest_left_out(self):
        # Nothing but the beginning: one claim, and for each other standing one more and those for all standings.
        for size, registers in ((2, 8), (17, 2), (18, 2), (400, 1), (400, 400)):
            judge = Judge(registers, [REFUSE])
            number = size ** registers
            length = 1 + (number - 1) * (1 + number)
            if length <= 100000:
                self.assertEqual(len(counter_paper(judge, World(size))), length)
                self.assertEqual(len(counter_paper(judge, World(size), longest=length)), length)
            else:
                check_error(self, TooLong(length), counter_paper, judge, World(size))
                check_error(self, TooLong(length), counter_paper, judge, World(size), longest=length - 1)
        # Eleven claims and two more moves: just one letter too many.
        moved = [("claim" if line < 11 else "go", line + 1) for line in range(13)]
        judge = Judge(0, moved + [REFUSE] * 62)
        check_error(self, TooLong(100001), counter_paper, judge, PAIR)
        self.assertEqual(len(counter_paper(judge, PAIR, longest=100001)), 100001)
        self.assertGreater(18 ** 4, 100000)
        self.assertEqual(len(counter_paper(Judge(2, [REFUSE]), World(18), longest=18 ** 4)), 18 ** 4)

    def test_limit(self):
        for judge, given in ((WAY, (2, 0)), (WAY, (0, 2)), (TALK, ()), (Judge(1, [("read", 0), REFUSE]), ())):
            number = len(reached(judge, CHAIN, given))
            found = counter_paper(judge, CHAIN, given, longest=10 ** 7)
            self.assertEqual(counter_paper(judge, CHAIN, given, limit=number, longest=10 ** 7), found)
            for limit in range(1, number):
                # TooMany comes before TooLong, and also where a take is reached.
                check_error(self, TooMany(limit), counter_paper, judge, CHAIN, given, limit=limit)
                check_error(self, TooMany(limit), counter_paper, judge, CHAIN, given, limit=limit, longest=0)
        # Just so many, and one more; the first one is not too many, but its paper is too long.
        many = [("go", line + 1) for line in range(19998)]
        self.assertRaises(TooLong, counter_paper, Judge(1, many[1:-1] + [("read", 0), REFUSE, REFUSE]), PAIR)
        self.assertIsNone(counter_paper(Judge(1, many[:-1] + [("read", 0), TAKE]), PAIR))
        check_error(self, TooMany(20000), counter_paper, Judge(1, many + [("read", 0), TAKE]), PAIR)
        judge = Judge(3, [("read", 0), ("read", 1), ("read", 2), REFUSE])
        check_error(self, TooMany(20000), counter_paper, judge, World(30))
        check_error(self, TooMany(20000), counter_paper, judge, World(30), longest=0)

    def test_errors(self):
        for given in ((), (0,), (0, 3), (0, True), None, (0, 0, 0)):
            for more in ({}, {"limit": 1}, {"longest": 0}):
                check_error(self, BadGiven, counter_paper, WAY, CHAIN, given, **more)
                check_error(self, NoSuchRelation("edge"), counter_paper, WAY, World(3), given, **more)
        self.assertRaises(TypeError, counter_paper, TALK, CHAIN, (), 100)


if __name__ == "__main__":
    unittest.main()
