"""Points 1 to 9: names, and worlds."""

import itertools
import unittest

from onceread.errors import BadOrder, BadRow, BadWorld, NoSuchRelation
from onceread.worlds import World

RESERVED = ("some", "every", "not", "and", "or", "walk", "more", "than", "first", "last", "next")
GOOD_NAMES = ("a", "z", "a0", "z9", "edge", "abcdefghijkl", "a12345678901", "rel", "same", "before",
              "somex", "nota", "firsts", "walk1", "zero", "yes")
BAD_NAMES = RESERVED + (
    "", "abcdefghijklm", "a123456789012", "0a", "9", "1edge", "A", "aB", "Edge", "a_b", "a-b", "a b",
    " a", "a ", "a\n", "\n", "_", "a.b", "\u00e9", "a\u00e9", "\u00df", "a\u0660", "a\u00b2", "\u0430",
    "a\u2160", "\uff41", "a\uff11", "\u01c6", "a\u0300",
    None, True, False, 0, 5, (), [], ("a",), ["a"], ("a", "b"))
NO_NUMBERS = (None, True, False, "1", "", (), [], (1,), [2])


def is_tuples(value):
    """Has it no list at any level?"""
    if isinstance(value, list):
        return False
    return not isinstance(value, tuple) or all(is_tuples(member) for member in value)


class Names(unittest.TestCase):
    def test_good_names(self):
        for name in GOOD_NAMES:
            with self.subTest(name=name):
                self.assertEqual(World(2, [(name, 1, [])]).names, (name,))

    def test_bad_names(self):
        for name in BAD_NAMES:
            with self.subTest(name=name):
                with self.assertRaises(BadWorld):
                    World(2, [(name, 1, [])])


class Sizes(unittest.TestCase):
    def test_bounds(self):
        for size in (2, 3, 399, 400):
            self.assertEqual(World(size).size, size)

    def test_beyond(self):
        for size in (1, 0, -1, -2, 401, 10 ** 9) + NO_NUMBERS:
            with self.subTest(size=size):
                with self.assertRaises(BadWorld):
                    World(size)

    def test_last_thing(self):
        world = World(400, [("mark", 1, [(399,), (0,)])])
        self.assertEqual(world.rows("mark"), ((0,), (399,)))
        with self.assertRaises(BadWorld):
            World(400, [("mark", 1, [(400,)])])

    def test_by_name(self):
        self.assertEqual(World(size=3, relations=[("a", 1, [(2,)])]).facts, (("a", (2,)),))


class Relations(unittest.TestCase):
    def bad(self, relations, size=3):
        with self.subTest(relations=relations):
            with self.assertRaises(BadWorld):
                World(size, relations)

    def test_no_sequence_of_entries(self):
        for relations in (None, True, False, 0, 5, "", "a", "abc"):
            self.bad(relations)

    def test_twelve_and_thirteen(self):
        entries = [("r" + str(at), 1, [(0,)]) for at in range(13)]
        self.assertEqual(len(World(2, entries[:12])), 12)
        self.bad(entries, 2)
        self.bad(tuple(entries), 2)

    def test_no_entry(self):
        good = ("a", 1, [])
        for entry in (None, True, 5, "a", "abc", "a1b", (), [], ("a",), ("a", 1), ("a", 1, [], []),
                      ("a", 1, [(0,)], 0), ((), (), ())):
            self.bad([entry])
            self.bad([good, entry])

    def test_arities(self):
        for arity in (1, 2, 3):
            world = World(2, [("a", arity, [(1,) * arity])])
            self.assertEqual(world.arity("a"), arity)
        for arity in (0, 4, -1, 100) + NO_NUMBERS:
            self.bad([("a", arity, [])])
        self.bad([("a", 0, [()])])
        self.bad([("a", 4, [(0, 0, 0, 0)])])
        self.bad([("a", True, [(0,)])])

    def test_no_sequence_of_rows(self):
        for rows in (None, True, 0, 5, "", "0", "ab"):
            self.bad([("a", 1, rows)])

    def test_no_rows(self):
        for row in (None, True, 0, 1, "", "0", "a", (), [], (0, 0), [0, 1, 2]):
            self.bad([("a", 1, [row])])
            self.bad([("a", 1, [(0,), row])])
        for row in ((0,), [0, 1, 2], "01", (0, 3), (3, 0), (-1, 0), (0, -1)):
            self.bad([("a", 2, [row])])

    def test_no_things(self):
        for thing in (3, -1, 400, None, True, False, "0", "", (), [], (0,), [0]):
            for place in range(3):
                row = [0, 1, 2]
                row[place] = thing
                self.bad([("a", 3, [tuple(row)])])
                self.bad([("a", 3, [row])])

    def test_one_name_twice(self):
        self.bad([("a", 1, []), ("a", 1, [])])
        self.bad([("a", 1, []), ("b", 1, []), ("a", 2, [])])
        self.bad([("a", 1, [(0,)]), ["a", 1, [(0,)]]])

    def test_rows_given_twice(self):
        world = World(3, [("a", 2, [(1, 2), (0, 1), [1, 2], (1, 2)])])
        self.assertEqual(world.rows("a"), ((0, 1), (1, 2)))
        self.assertEqual(len(world), 2)

    def test_tuples_and_lists_mixed(self):
        kinds = (tuple, list)
        expected = (("a", (0, 1)), ("a", (2, 0)), ("b", (1,)))
        for entries, entry, rows, row in itertools.product(kinds, repeat=4):
            given = entries([entry(["b", 1, rows([row([1])])]),
                             entry(["a", 2, rows([row([2, 0]), row([0, 1])])])])
            world = World(3, given)
            self.assertEqual(world.facts, expected)
            self.assertTrue(is_tuples(world.facts) and is_tuples(world.names))
            self.assertEqual(given, entries([entry(["b", 1, rows([row([1])])]),
                                             entry(["a", 2, rows([row([2, 0]), row([0, 1])])])]))

    def test_later_changes_have_no_effect(self):
        row = [0, 1]
        rows = [row]
        entry = ["a", 2, rows]
        relations = [entry]
        world = World(3, relations)
        row[0] = 2
        rows.append([1, 1])
        entry[0] = "b"
        relations.append(("c", 1, []))
        self.assertEqual(world.facts, (("a", (0, 1)),))
        self.assertEqual(world.names, ("a",))
        self.assertEqual(world.rows("a"), ((0, 1),))
        self.assertIn(("a", (0, 1)), world)
        self.assertNotIn(("a", (2, 1)), world)


class Fields(unittest.TestCase):
    def setUp(self):
        self.world = World(12, [["edge", 2, [[10, 2], (2, 10), [2, 9]]], ("b", 1, ()),
                                ("a1", 3, [(1, 1, 1), (0, 11, 11)]), ("a", 1, [[11], [3]])])

    def test_names(self):
        self.assertEqual(self.world.names, ("a", "a1", "b", "edge"))
        self.assertIsInstance(self.world.names, tuple)

    def test_facts(self):
        self.assertEqual(self.world.facts, (
            ("a", (3,)), ("a", (11,)), ("a1", (0, 11, 11)), ("a1", (1, 1, 1)),
            ("edge", (2, 9)), ("edge", (2, 10)), ("edge", (10, 2))))
        self.assertTrue(is_tuples(self.world.facts))

    def test_arity(self):
        self.assertEqual([self.world.arity(name) for name in self.world.names], [1, 3, 1, 2])

    def test_rows(self):
        self.assertEqual(self.world.rows("edge"), ((2, 9), (2, 10), (10, 2)))
        self.assertEqual(self.world.rows("b"), ())
        self.assertEqual(self.world.rows("a"), ((3,), (11,)))
        self.assertTrue(is_tuples(self.world.rows("edge")))

    def test_no_such_relation(self):
        for name in ("c", "", "Edge", "edge ", "not", "abcdefghijklmnop"):
            for method in (self.world.arity, self.world.rows):
                with self.subTest(name=name):
                    with self.assertRaises(NoSuchRelation) as caught:
                        method(name)
                    self.assertEqual(caught.exception.name, name)

    def test_without_relations(self):
        world = World(2)
        self.assertEqual((world.names, world.facts, len(world)), ((), (), 0))
        self.assertEqual(World(2, []).names, ())


class Edits(unittest.TestCase):
    def setUp(self):
        self.world = World(3, [("edge", 2, [(0, 1), (1, 2)]), ("mark", 1, [])])

    def test_put(self):
        after = self.world.put("edge", [0, 0])
        self.assertEqual(after.facts, (("edge", (0, 0)), ("edge", (0, 1)), ("edge", (1, 2))))
        self.assertEqual(self.world.facts, (("edge", (0, 1)), ("edge", (1, 2))))
        self.assertEqual((after.size, after.names), (3, ("edge", "mark")))
        self.assertEqual(after.rows("edge"), ((0, 0), (0, 1), (1, 2)))
        self.assertIn(("edge", (0, 0)), after)
        self.assertTrue(is_tuples(after.facts))
        self.assertEqual(after, World(3, [("edge", 2, [(0, 1), (1, 2), (0, 0)]), ("mark", 1, [])]))

    def test_put_into_an_empty_relation(self):
        after = self.world.put(name="mark", row=(2,))
        self.assertEqual(after.rows("mark"), ((2,),))
        self.assertEqual(after.rows("edge"), self.world.rows("edge"))
        self.assertEqual(self.world.rows("mark"), ())

    def test_drop(self):
        after = self.world.drop("edge", [0, 1])
        self.assertEqual(after.facts, (("edge", (1, 2)),))
        self.assertEqual(after.names, ("edge", "mark"))
        self.assertEqual(len(self.world), 2)
        self.assertNotIn(("edge", (0, 1)), after)
        self.assertEqual(after.drop("edge", (1, 2)).rows("edge"), ())

    def test_nothing_changes(self):
        self.assertEqual(self.world.put("edge", (0, 1)), self.world)
        self.assertEqual(self.world.put("edge", [0, 1]).facts, self.world.facts)
        self.assertEqual(self.world.drop("edge", (2, 1)), self.world)
        self.assertEqual(self.world.drop("mark", [0]).facts, self.world.facts)
        self.assertEqual(self.world.drop("edge", (0, 1)).put("edge", (0, 1)), self.world)

    def test_no_such_relation_comes_first(self):
        for method in (self.world.put, self.world.drop):
            for row in ((0, 1), (0,), (7, 7), None, "ab", (True, False)):
                with self.subTest(row=row):
                    with self.assertRaises(NoSuchRelation) as caught:
                        method("link", row)
                    self.assertEqual(caught.exception.name, "link")

    def test_bad_rows(self):
        rows = [(), (0,), (0, 1, 2), (0, 3), (3, 0), (-1, 0), (0, True), (False, 1), (0, None), (0, "1"),
                (0, (1,)), ("0", "1")]
        for method in (self.world.put, self.world.drop):
            for row in rows + [list(row) for row in rows]:
                with self.subTest(row=row):
                    with self.assertRaises(BadRow) as caught:
                        method("edge", row)
                    self.assertIsInstance(caught.exception.row, tuple)
                    self.assertEqual(caught.exception.row, tuple(row))

    def test_rows_that_are_no_sequences(self):
        for method in (self.world.put, self.world.drop):
            for row in (None, True, 5, "", "0", "01", "ab"):
                with self.subTest(row=row):
                    with self.assertRaises(BadRow) as caught:
                        method("mark", row)
                    self.assertEqual(caught.exception.row, row)

    def test_equal_numbers_that_are_no_things(self):
        world = World(3, [("edge", 2, [(0, 1)])])
        for method in (world.put, world.drop):
            with self.assertRaises(BadRow):
                method("edge", (False, True))

    def test_given_rows_are_not_kept(self):
        row = [2, 2]
        after = self.world.put("edge", row)
        row[0] = 0
        self.assertEqual(after.rows("edge"), ((0, 1), (1, 2), (2, 2)))
        self.assertEqual(row, [0, 2])


class Moved(unittest.TestCase):
    def setUp(self):
        self.world = World(3, [("edge", 2, [(0, 1), (1, 2)]), ("mark", 1, [(2,)]), ("none", 3, [])])

    def test_moved(self):
        after = self.world.moved([2, 0, 1])
        self.assertEqual(after.facts, (("edge", (0, 1)), ("edge", (2, 0)), ("mark", (1,))))
        self.assertEqual((after.size, after.names, after.arity("none")), (3, ("edge", "mark", "none"), 3))
        self.assertEqual(self.world.rows("mark"), ((2,),))
        self.assertTrue(is_tuples(after.facts))

    def test_not_the_other_way_round(self):
        # order[t] takes the place of t: 0 -> 1, 1 -> 2, 2 -> 0.
        self.assertEqual(self.world.moved(order=(1, 2, 0)).rows("edge"), ((1, 2), (2, 0)))

    def test_same_order(self):
        self.assertEqual(self.world.moved((0, 1, 2)), self.world)

    def test_bad_orders(self):
        for order in (None, True, 3, "012", "", (), [], (0, 1), (0, 1, 2, 2), (0, 1, 2, 3), (0, 1, 1),
                      (1, 2, 3), (-1, 0, 1), (0, 1, None), (0, 1, "2"), (False, True, 2), (0, True, 2),
                      (0, 1, (2,)), [0, 1, [2]], ((0, 1, 2),), (2, 2, 2)):
            with self.subTest(order=order):
                with self.assertRaises(BadOrder):
                    self.world.moved(order)

    def test_order_of_the_smallest_world(self):
        world = World(2, [("mark", 1, [(0,)])])
        self.assertEqual(world.moved([1, 0]).rows("mark"), ((1,),))
        with self.assertRaises(BadOrder):
            world.moved([True, False])


class AsCollection(unittest.TestCase):
    def setUp(self):
        self.world = World(3, [("edge", 2, [(0, 1), (1, 0)]), ("mark", 1, [(1,)])])

    def test_in(self):
        for pair in (("edge", (0, 1)), ("edge", [0, 1]), ["edge", (1, 0)], ["mark", [1]]):
            with self.subTest(pair=pair):
                self.assertIs(pair in self.world, True)

    def test_not_in(self):
        for row in ((), (0,), (0, 1, 2), (1, 1), (0, 3), (-1, 0), (False, True), (0, True), (None, 1),
                    ("0", "1"), ([0], [1]), ((0, 1),), ([[]],), (0, [1, []])):
            for kind in (tuple, list):
                with self.subTest(row=row):
                    self.assertIs(("edge", kind(row)) in self.world, False)
        for name in ("", "Edge", "link", "mark", "not"):
            self.assertIs((name, (0, 1)) in self.world, False)
        self.assertIs(("mark", (True,)) in self.world, False)
        self.assertIs(("mark", [0]) in self.world, False)

    def test_len_and_loop(self):
        self.assertEqual(len(self.world), 3)
        self.assertEqual(list(self.world), list(self.world.facts))
        self.assertEqual([fact for fact in self.world],
                         [("edge", (0, 1)), ("edge", (1, 0)), ("mark", (1,))])
        self.assertEqual(len(World(2, [("a", 1, [])])), 0)
        self.assertEqual(list(World(2)), [])

    def test_equal(self):
        other = World(3, (["mark", 1, ([1],)], ("edge", 2, [(1, 0), (0, 1), (1, 0)])))
        self.assertTrue(self.world == other)
        self.assertFalse(self.world != other)

    def test_not_equal(self):
        edges = ("edge", 2, [(0, 1), (1, 0)])
        for other in (World(4, [edges, ("mark", 1, [(1,)])]), World(3, [edges, ("mark", 1, [(2,)])]),
                      World(3, [edges, ("mark", 1, [])]), World(3, [edges]),
                      World(3, [edges, ("mark", 1, [(1,)]), ("more1", 1, [])])):
            self.assertFalse(self.world == other)
            self.assertTrue(self.world != other)
        self.assertFalse(World(2, [("a", 1, [])]) == World(2, [("a", 2, [])]))
        self.assertFalse(World(2, [("a", 1, [])]) == World(2, [("b", 1, [])]))
        self.assertFalse(World(2) == World(3))

    def test_not_equal_to_other_objects(self):
        for other in (None, 3, "world", self.world.facts, list(self.world.facts), (), object()):
            with self.subTest(other=other):
                self.assertFalse(self.world == other)
                self.assertTrue(self.world != other)
                self.assertFalse(other == self.world)


if __name__ == "__main__":
    unittest.main()
