"""Points 23, 25 and 26: readers."""

import itertools
import random
import unittest

from onceread.errors import BadGiven, BadStanding, NoSuchRelation
from onceread.judges import Judge
from onceread.reaching import moves, reached
from onceread.readers import Reader
from onceread.running import verdict
from onceread.worlds import World

CHAIN = World(3, [("edge", 2, [(0, 1), (1, 2)]), ("mark", 1, [(1,)])])
TAKE, REFUSE = ("take",), ("refuse",)
NO_STANDINGS = (None, True, 0, "", "ab", (), [], (0,), (0, (0, 0), 0), (None, (0, 0)), (True, (0, 0)), (False, (0, 0)),
                ("0", (0, 0)), ((0,), (0, 0)), (-1, (0, 0)), (2, (0, 0)), (0, None), (0, 0), (0, True), (0, "00"), (0, ""),
                (0, ()), (0, (0,)), (0, (0, 0, 0)), (0, (0, 3)), (0, (-1, 0)), (0, (0, True)), (0, (False, 0)),
                (0, (0, None)), (0, ("0", 0)), (0, ((0,), 0)), [0, [[0], 0]])


def rested(judge, world, standing):
    """State and standing when no letter comes, with a list of all standings that came."""
    came = []
    while standing not in came:
        came.append(standing)
        word = judge.lines[standing[0]][0]
        if word in ("read", "claim", "take", "refuse"):
            return {"take": "taken", "refuse": "refused"}.get(word, "reading"), standing
        standing = moves(judge, world, standing)[0][1]
    return "endless", standing


def fed(judge, world, standing, letters):
    """The states and standings behind each letter."""
    state, standing = rested(judge, world, standing)
    found = [(state, standing)]
    for letter in letters:
        if state == "taken":
            state = "refused"
        elif state == "reading":
            after = dict(moves(judge, world, standing))
            if letter in after:
                state, standing = rested(judge, world, after[letter])
            else:
                state = "refused"
        found.append((state, standing))
    return found


class Fed(unittest.TestCase):
    def check(self, reader, state, standing, fed):
        self.assertEqual((reader.state, reader.standing, reader.fed), (state, standing, fed))
        self.assertIsInstance(reader.standing, tuple)
        self.assertIsInstance(reader.standing[1], tuple)

    def feed(self, reader, letter, state, standing, fed):
        self.assertEqual(reader.feed(letter), state)
        self.check(reader, state, standing, fed)

    def test_new_reader_has_gone_on(self):
        judge = Judge(2, [("copy", 1, 0), ("step", 1, 0), ("read", 0), TAKE], 1)
        self.check(Reader(judge, CHAIN, (1,)), "reading", (2, (1, 2)), 0)
        self.check(Reader(judge, CHAIN, given=[0]), "reading", (2, (0, 1)), 0)
        self.check(Reader(judge=Judge(0, [("go", 1), TAKE]), world=CHAIN), "taken", (1, ()), 0)
        self.check(Reader(Judge(1, [("step", 0, 0), REFUSE]), CHAIN), "refused", (1, (1,)), 0)

    def test_taken(self):
        reader = Reader(Judge(2, [("read", 1), ("claim", 2), TAKE]), CHAIN)
        self.check(reader, "reading", (0, (0, 0)), 0)
        self.feed(reader, 2, "reading", (1, (0, 2)), 1)
        self.feed(reader, 1, "taken", (2, (0, 2)), 2)

    def test_fed_behind_a_take(self):
        reader = Reader(Judge(1, [("read", 0), TAKE]), CHAIN)
        self.feed(reader, 1, "taken", (1, (1,)), 1)
        self.feed(reader, 0, "refused", (1, (1,)), 2)
        self.feed(reader, 0, "refused", (1, (1,)), 3)
        reader = Reader(Judge(0, [TAKE]), CHAIN)
        self.check(reader, "taken", (0, ()), 0)
        self.feed(reader, 999, "refused", (0, ()), 1)

    def test_refused_by_a_refuse(self):
        reader = Reader(Judge(1, [("read", 0), REFUSE]), CHAIN)
        self.feed(reader, 2, "refused", (1, (2,)), 1)
        for many in (2, 3, 4):
            self.feed(reader, 1, "refused", (1, (2,)), many)

    def test_refused_letters(self):
        for letter in (3, -1, 400, 10 ** 9):
            reader = Reader(Judge(2, [("read", 0), ("read", 1), TAKE]), CHAIN)
            self.feed(reader, 1, "reading", (1, (1, 0)), 1)
            self.feed(reader, letter, "refused", (1, (1, 0)), 2)
            self.feed(reader, 0, "refused", (1, (1, 0)), 3)

    def test_refused_claims(self):
        for letter in (2, 3, -1, 400):
            reader = Reader(Judge(1, [("claim", 0), TAKE]), CHAIN)
            self.feed(reader, 1, "reading", (0, (0,)), 1)
            self.feed(reader, letter, "refused", (0, (0,)), 2)
            self.feed(reader, 0, "refused", (0, (0,)), 3)

    def test_claims(self):
        reader = Reader(Judge(1, [("claim", 0), ("claim", 3), REFUSE, TAKE]), CHAIN)
        self.feed(reader, 1, "reading", (0, (0,)), 1)
        self.feed(reader, 0, "reading", (1, (0,)), 2)
        self.feed(reader, 1, "taken", (3, (0,)), 3)

    def test_endless(self):
        self.check(Reader(Judge(0, [("go", 0)]), CHAIN), "endless", (0, ()), 0)
        self.check(Reader(Judge(1, [("go", 2), TAKE, ("go", 3), ("go", 2)]), CHAIN), "endless", (2, (0,)), 0)
        judge = Judge(1, [("read", 0), ("step", 0, 1), ("step", 0, 4), TAKE, ("step", 0, 4), ("go", 4)])
        reader = Reader(judge, CHAIN)
        self.feed(reader, 1, "endless", (4, (0,)), 1)
        for letter in (0, 1, 7):
            self.assertEqual(reader.feed(letter), "endless")
        self.check(reader, "endless", (4, (0,)), 4)

    def test_first_standing_that_came_again(self):
        # Two moves lead into the circle, which begins at line 2.
        judge = Judge(1, [("step", 0, 0), ("step", 0, 0), ("step", 0, 3), ("go", 2)])
        self.check(Reader(judge, CHAIN), "endless", (2, (2,)), 0)
        judge = Judge(1, [("step", 0, 0), ("go", 2), ("step", 0, 2), ("go", 2)])
        self.check(Reader(judge, CHAIN), "endless", (2, (1,)), 0)

    def test_silence_begins_again_with_each_letter(self):
        judge = Judge(1, [("zero", 0), ("claim", 0), ("go", 3), ("go", 2)])
        reader = Reader(judge, CHAIN)
        for many in range(1, 5):
            self.feed(reader, 1, "reading", (1, (0,)), many)
        self.feed(reader, 0, "endless", (2, (0,)), 5)

    def test_fed_is_a_whole_number(self):
        reader = Reader(Judge(0, [REFUSE]), CHAIN)
        for many in range(5):
            self.assertEqual(reader.fed, many)
            self.assertNotIsInstance(reader.fed, bool)
            reader.feed(letter=0)

    def test_readers_do_not_share(self):
        judge = Judge(1, [("read", 0), ("read", 0), TAKE])
        one, two = Reader(judge, CHAIN), Reader(judge, CHAIN)
        one.feed(1)
        self.check(two, "reading", (0, (0,)), 0)
        self.check(one, "reading", (1, (1,)), 1)
        kept = one.standing
        one.feed(2)
        self.assertEqual(kept, (1, (1,)))


class Random(unittest.TestCase):
    def judges(self, seed, many):
        chance = random.Random(seed)
        for _ in range(many):
            lines = []
            for at in range(6):
                def register():
                    return chance.randrange(2)

                def line():
                    return chance.randrange(6)

                lines.append(chance.choice((
                    ("read", register()), ("claim", line()), ("read", register()), ("zero", register()),
                    ("copy", register(), register()), ("step", register(), line()), ("first", register(), line()),
                    ("same", register(), register(), line()), ("fact", "edge", (register(), register()), line()),
                    ("go", line()), TAKE)) if at < 5 else chance.choice((("go", line()), TAKE, REFUSE)))
            yield chance, Judge(2, lines, chance.randrange(3))

    def test_each_letter(self):
        states = {}
        for chance, judge in self.judges(26, 700):
            given = tuple(chance.randrange(3) for _ in range(judge.given))
            letters = [chance.choice((0, 1, 0, 1, 2, 3)) for _ in range(5)]
            expected = fed(judge, CHAIN, (0, given + (0,) * (2 - judge.given)), letters)
            reader = Reader(judge, CHAIN, given)
            self.assertEqual((reader.state, reader.standing, reader.fed), expected[0] + (0,))
            for many, letter in enumerate(letters, 1):
                word = verdict(judge, CHAIN, letters[:many], given)
                self.assertEqual(reader.feed(letter), expected[many][0])
                self.assertEqual((reader.state, reader.standing, reader.fed), expected[many] + (many,))
                self.assertEqual(word == "taken", reader.state == "taken")
                self.assertEqual(word == "refused", reader.state in ("refused", "reading"))
                states[reader.state] = states.get(reader.state, 0) + 1
        self.assertTrue(all(states[state] > 30 for state in ("taken", "refused", "endless", "reading")))

    def test_resumed_from_reached_standings(self):
        for chance, judge in self.judges(27, 150):
            given = tuple(chance.randrange(3) for _ in range(judge.given))
            letters = [chance.choice((0, 1, 2, 3)) for _ in range(4)]
            reader = Reader(judge, CHAIN, given)
            for many in range(4):
                if reader.state == "reading":
                    other = Reader.resumed(judge, CHAIN, reader.standing)
                    self.assertEqual((other.state, other.standing, other.fed), ("reading", reader.standing, 0))
                    again = Reader.resumed(judge, CHAIN, list(reader.standing))
                    same = Reader(judge, CHAIN, given)
                    for letter in letters[:many]:
                        same.feed(letter)
                    for letter in letters[many:]:
                        self.assertEqual(other.feed(letter), again.feed(letter))
                        self.assertEqual(same.feed(letter), other.state)
                        self.assertEqual(same.standing, other.standing)
                reader.feed(letters[many])

    def test_resumed_from_any_standing(self):
        for chance, judge in self.judges(28, 120):
            come = reached(judge, CHAIN, (0,) * judge.given)
            for standing in itertools.product(range(6), itertools.product(range(3), repeat=2)):
                if standing not in come or chance.random() < 0.2:
                    letters = [chance.choice((0, 1, 2)) for _ in range(2)]
                    expected = fed(judge, CHAIN, standing, letters)
                    reader = Reader.resumed(judge, CHAIN, standing)
                    self.assertEqual((reader.state, reader.standing, reader.fed), expected[0] + (0,))
                    for many, letter in enumerate(letters, 1):
                        reader.feed(letter)
                        self.assertEqual((reader.state, reader.standing, reader.fed), expected[many] + (many,))


class Resumed(unittest.TestCase):
    def test_goes_on_at_once(self):
        judge = Judge(2, [("read", 0), ("step", 0, 3), ("go", 0), TAKE, REFUSE, ("go", 5)])
        for standing, state, rest in (((0, (1, 2)), "reading", (0, (1, 2))), ([1, [0, 1]], "reading", (0, (1, 1))),
                                      ((1, [2, 1]), "taken", (3, (0, 1))), ([2, (2, 2)], "reading", (0, (2, 2))),
                                      ((3, (1, 1)), "taken", (3, (1, 1))), ((4, (1, 1)), "refused", (4, (1, 1))),
                                      ((5, (1, 1)), "endless", (5, (1, 1)))):
            reader = Reader.resumed(judge, CHAIN, standing)
            self.assertIsInstance(reader, Reader)
            self.assertEqual((reader.state, reader.standing, reader.fed), (state, rest, 0))
        reader = Reader.resumed(judge=judge, world=CHAIN, standing=(2, (2, 2)))
        self.assertEqual((reader.feed(2), reader.standing, reader.fed), ("taken", (3, (0, 2)), 1))

    def test_not_run_from_its_beginning(self):
        # From its beginning, this judge would count through 400 to the power 5 rows.
        lines = []
        for at in range(5):
            lines += [("step", at, 2 * at + 2), ("go", 0)]
        reader = Reader.resumed(Judge(5, lines + [("read", 0), TAKE]), World(400), (10, (1, 2, 3, 4, 5)))
        self.assertEqual((reader.state, reader.feed(7), reader.standing), ("reading", "taken", (11, (7, 2, 3, 4, 5))))

    def test_given_does_not_matter(self):
        judge = Judge(2, [("read", 1), TAKE], 2)
        reader = Reader.resumed(judge, CHAIN, (0, (2, 1)))
        self.assertEqual((reader.feed(0), reader.standing), ("taken", (1, (2, 0))))

    def test_standing_is_not_kept_as_it_was_given(self):
        row = [1, 2]
        standing = [0, row]
        reader = Reader.resumed(Judge(2, [("read", 1), TAKE]), CHAIN, standing)
        reader.feed(0)
        self.assertEqual((standing, row), ([0, [1, 2]], [1, 2]))
        row[0] = 0
        self.assertEqual(reader.standing, (1, (1, 0)))


class Errors(unittest.TestCase):
    def test_no_such_relation_comes_first(self):
        for line, name in ((("fact", "link", (0,), 0), "link"), (("fact", "edge", (0,), 0), "edge")):
            judge = Judge(2, [line, TAKE], 1)
            for given in ((0,), (), None, (7,)):
                with self.assertRaises(NoSuchRelation) as caught:
                    Reader(judge, CHAIN, given)
                self.assertEqual(caught.exception.name, name)
            for standing in ((0, (0, 0)), None, (7, ())):
                with self.assertRaises(NoSuchRelation) as caught:
                    Reader.resumed(judge, CHAIN, standing)
                self.assertEqual(caught.exception.name, name)

    def test_bad_given(self):
        judge = Judge(2, [TAKE], 1)
        for given in (None, True, 0, "", "0", (), (0, 0), (3,), (-1,), (True,), (None,), ((0,),), ["0"]):
            with self.subTest(given=given):
                self.assertRaises(BadGiven, Reader, judge, CHAIN, given)
        self.assertRaises(BadGiven, Reader, judge, CHAIN)

    def test_bad_standings(self):
        judge = Judge(2, [("read", 0), TAKE], 1)
        for standing in NO_STANDINGS:
            with self.subTest(standing=standing):
                self.assertRaises(BadStanding, Reader.resumed, judge, CHAIN, standing)
        self.assertRaises(BadStanding, Reader.resumed, Judge(0, [TAKE]), CHAIN, (0, (0,)))
        self.assertEqual(Reader.resumed(Judge(0, [TAKE]), CHAIN, [0, []]).state, "taken")


if __name__ == "__main__":
    unittest.main()
