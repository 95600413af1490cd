"""Points 1, 2 and 10 to 13: trees, questions, their properties, operators and functions."""

import unittest

from onceread.errors import BadQuestion
from onceread.questions import (
    Question, before, every, following, is_first, is_last, more, rel, same, some, walk)

BAD_NAMES = ("some", "every", "not", "and", "or", "walk", "more", "than", "first", "last", "next",
             "", "abcdefghijklm", "0a", "7", "A", "aB", "a_b", "a b", " a", "a\n", "\u00e9", "a\u00e9",
             "a\u0660", "\u0430", "a\u00b2",
             None, True, False, 0, 1, (), [], ("a",), ["a"])
NO_TREES = (None, True, False, 0, 5, "", "a", "rel", "first", "same", (), [], ("a",), ("first",),
            ("firsts", "x"), ("First", "x"), (None, "x"), (True, "x"), (1, "x"), ((), "x"),
            ([], "x"), (["first"], "x"), (("first", "x"),), "fx", ("than", "x", "y"), ("", "x"),
            ("first", "x", "y"), ("same", "x"), ("same", "x", "y", "z"))
NO_SEQUENCES = (None, True, False, 0, 1, 5, "", "a", "ab", "abc")

ATOM = ("first", "x")
EDGE = ("rel", "edge", ("a", "b"))
GOOD_TREES = (
    ("rel", "mark", ("x",)), ("rel", "edge", ("x", "x")), ("rel", "tri", ("x", "y", "z")),
    ("same", "x", "y"), ("same", "x", "x"), ("before", "x", "y"), ("next", "x", "y"), ("first", "x"),
    ("last", "x"), ("not", ATOM), ("and", ATOM, EDGE), ("or", EDGE, ATOM), ("some", "x", ATOM),
    ("every", "y", ATOM), ("more", "x", ATOM, "y", EDGE),
    ("walk", ("a",), ("b",), EDGE, ("x",), ("y",)),
    ("walk", ("a", "b"), ("c", "d"), EDGE, ("x", "x"), ("a", "d")))
# What is told of each member behind the word: v a name, t a tree, s a sequence of variables.
FORMS = {"rel": "vs", "same": "vv", "before": "vv", "next": "vv", "first": "v", "last": "v", "not": "t",
         "and": "tt", "or": "tt", "some": "vt", "every": "vt", "more": "vtvt", "walk": "sstss"}


def lists(value):
    """The same with lists for tuples throughout."""
    return [lists(member) for member in value] if isinstance(value, (tuple, list)) else value


def tuples(value):
    return tuple(tuples(member) for member in value) if isinstance(value, (tuple, list)) else value


def mixed(value, flag=True):
    """The same with tuples and lists in turn."""
    if not isinstance(value, (tuple, list)):
        return value
    return (list if flag else tuple)(mixed(member, not flag) for member in value)


def has_list(value):
    return isinstance(value, list) or isinstance(value, tuple) and any(map(has_list, value))


def nested(depth, wrap, atom=ATOM):
    """A tree of this depth."""
    tree = atom
    for _ in range(depth - 1):
        tree = wrap(tree)
    return tree


def ands(leaves, leaf=ATOM):
    """A flat tree of 2 * leaves - 1 trees."""
    row = [leaf] * leaves
    while len(row) > 1:
        row = [("and",) + tuple(row[at:at + 2]) if at + 1 < len(row) else row[at]
               for at in range(0, len(row), 2)]
    return row[0]


def wide(width):
    """A walk of this width."""
    left = tuple("a" + str(at) for at in range(width))
    right = tuple("b" + str(at) for at in range(width))
    return ("walk", left, right, EDGE, ("x",) * width, ("y",) * width)


class TreeTests(unittest.TestCase):
    def bad(self, tree):
        with self.subTest(tree=repr(tree)[:300] if not isinstance(tree, list) or len(tree) < 9 else len(tree)):
            with self.assertRaises(BadQuestion):
                Question(tree)


class Forms(TreeTests):
    def test_good_trees(self):
        for tree in GOOD_TREES:
            with self.subTest(tree=tree):
                self.assertEqual(Question(tree).tree, tree)
                self.assertEqual(Question(tree=lists(tree)).tree, tree)
                self.assertEqual(Question(mixed(tree)).tree, tree)
                self.assertEqual(Question(mixed(tree, False)).tree, tree)
                self.assertFalse(has_list(Question(lists(tree)).tree))

    def test_good_trees_within_others(self):
        for tree in GOOD_TREES:
            for outer in (("not", tree), ("and", tree, ATOM), ("and", ATOM, tree), ("or", tree, ATOM),
                          ("or", ATOM, tree), ("some", "x", tree), ("every", "x", tree),
                          ("more", "x", tree, "y", ATOM), ("more", "x", ATOM, "y", tree),
                          ("walk", ("a",), ("b",), tree, ("x",), ("y",))):
                self.assertEqual(Question(mixed(outer)).tree, outer)

    def test_no_trees(self):
        for tree in NO_TREES:
            self.bad(tree)
            if isinstance(tree, tuple):
                self.bad(list(tree))

    def test_too_few_or_too_many_members(self):
        for tree in GOOD_TREES:
            for extra in ("x", ATOM, ("x",), None, 0):
                self.bad(tree + (extra,))
            for at in range(len(tree)):
                self.bad(tree[:at] + tree[at + 1:])

    def test_other_words(self):
        for tree in GOOD_TREES:
            for word in (None, True, 0, "", "Rel", "rel ", "than", "notx", "following", "is", "xor", ("rel",), ["rel"]):
                self.bad((word,) + tree[1:])

    def test_each_member_replaced(self):
        for tree in GOOD_TREES:
            for at, sign in enumerate(FORMS[tree[0]], 1):
                for junk in {"v": BAD_NAMES, "t": NO_TREES, "s": NO_SEQUENCES}[sign]:
                    self.bad(tree[:at] + (junk,) + tree[at + 1:])
                    self.bad(list(tree[:at]) + [junk] + list(tree[at + 1:]))
                    self.bad(("not", ("some", "x", tree[:at] + (junk,) + tree[at + 1:])))

    def test_each_variable_of_a_sequence_replaced(self):
        for tree in GOOD_TREES:
            for at, sign in enumerate(FORMS[tree[0]], 1):
                if sign == "s":
                    for place in range(len(tree[at])):
                        for junk in BAD_NAMES:
                            row = tree[at][:place] + (junk,) + tree[at][place + 1:]
                            self.bad(tree[:at] + (row,) + tree[at + 1:])

    def test_numbers_of_variables_of_a_relation(self):
        for many in (1, 2, 3):
            self.assertEqual(Question(("rel", "r", ("x",) * many)).uses, (("r", many),))
        for many in (0, 4, 5, 100):
            self.bad(("rel", "r", ("x",) * many))
            self.bad(("rel", "r", ["x"] * many))

    def test_longest_names(self):
        name = "abcdefghijk0"
        self.assertEqual(Question(("rel", name, (name, name))).free, (name,))
        self.bad(("rel", name + "0", ("x",)))
        self.bad(("rel", "r", (name + "0",)))


class Walks(TreeTests):
    def test_widths(self):
        for width in (1, 2, 59, 60):
            self.assertEqual(Question(wide(width)).tree, wide(width))
        for width in (0, 61, 62, 200):
            self.bad(wide(width))

    def test_unlike_lengths(self):
        tree = wide(3)
        for at in (1, 2, 4, 5):
            self.bad(tree[:at] + (tree[at][:2],) + tree[at + 1:])
            self.bad(tree[:at] + (tree[at] + ("new",),) + tree[at + 1:])
            self.bad(tree[:at] + ((),) + tree[at + 1:])

    def test_left_and_right_are_different_variables(self):
        for left, right in ((("a", "a"), ("c", "d")), (("a", "b"), ("c", "c")), (("a", "b"), ("b", "c")),
                            (("a", "b"), ("c", "a")), (("a", "b"), ("a", "b"))):
            self.bad(("walk", left, right, EDGE, ("x", "y"), ("x", "y")))
            self.bad(["walk", list(left), right, EDGE, ["x", "y"], ("x", "y")])
        self.bad(("walk", ("a",), ("a",), EDGE, ("x",), ("y",)))

    def test_start_and_goal_may_repeat(self):
        tree = ("walk", ("a", "b"), ("c", "d"), EDGE, ("x", "x"), ("a", "a"))
        self.assertEqual(Question(tree).free, ("a", "x"))


class Bounds(TreeTests):
    WRAPS = (lambda tree: ("not", tree), lambda tree: ("and", tree, ATOM), lambda tree: ("and", ATOM, tree),
             lambda tree: ("or", tree, ATOM), lambda tree: ["or", ATOM, tree], lambda tree: ("some", "x", tree),
             lambda tree: ["every", "y", tree], lambda tree: ("more", "x", tree, "x", ATOM),
             lambda tree: ("more", "x", ATOM, "y", tree),
             lambda tree: ("walk", ("a",), ("b",), tree, ("x",), ("y",)))

    def test_depth(self):
        for wrap in self.WRAPS:
            for depth in (1, 2, 39, 40):
                tree = nested(depth, wrap)
                self.assertEqual(Question(tree).tree, tuples(tree))
            for depth in (41, 42, 100, 3000, 6000):
                with self.subTest(depth=depth):
                    with self.assertRaises(BadQuestion):
                        Question(nested(depth, wrap))

    def test_endless_depth(self):
        tree = ["not"]
        tree.append(tree)
        with self.assertRaises(BadQuestion):
            Question(tree)

    def test_deep_member_that_is_no_tree(self):
        deep = ()
        for _ in range(5000):
            deep = (deep,)
        for tree in (deep, ("first", deep), ("rel", "r", deep), ("rel", deep, ("x",)), ("not", deep)):
            with self.assertRaises(BadQuestion):
                Question(tree)

    def test_number_of_trees(self):
        for tree in (("not", ands(10000)), ands(10000), ("some", "x", ands(10000, ("last", "y")))):
            self.assertEqual(Question(tree).tree, tree)
        for tree in (ands(10001), ("not", ("not", ands(10000))), ("and", ands(10000), ATOM),
                     ("walk", ("a",), ("b",), ("not", ands(10000)), ("x",), ("y",)), ands(20000)):
            with self.assertRaises(BadQuestion):
                Question(tree)

    def test_each_tree_counts_wherever_it_stands(self):
        tree = ATOM
        for _ in range(13):
            tree = ("or", tree, tree)
        self.assertEqual(len(Question(tree).free), 1)
        for _ in range(26):
            tree = ("or", tree, tree)
            with self.assertRaises(BadQuestion):
                Question(tree)

    def test_two_numbers_of_variables_for_one_relation(self):
        one, two = ("rel", "r", ("x",)), ("rel", "r", ("x", "y"))
        for word in ("and", "or"):
            self.bad((word, one, two))
            self.bad((word, two, one))
        self.bad(("more", "x", one, "y", ("not", two)))
        self.bad(("and", one, ("walk", ("a",), ("b",), two, ("x",), ("y",))))
        self.bad(("and", ("rel", "r", ("x", "y", "z")), two))
        self.assertEqual(Question(("and", two, ("rel", "r", ("y", "y")))).uses, (("r", 2),))


class Properties(unittest.TestCase):
    def free(self, tree):
        return Question(tree).free

    def test_free_in_atoms(self):
        self.assertEqual(self.free(("rel", "q", ("z", "x", "z"))), ("x", "z"))
        self.assertEqual(self.free(("rel", "x", ("y",))), ("y",))
        for word in ("same", "before", "next"):
            self.assertEqual(self.free((word, "y", "x")), ("x", "y"))
        for word in ("first", "last"):
            self.assertEqual(self.free((word, "y")), ("y",))

    def test_free_is_ascending(self):
        self.assertEqual(self.free(("and", ("same", "b", "a10"), ("same", "a2", "a"))), ("a", "a10", "a2", "b"))

    def test_free_with_bindings(self):
        both = ("same", "x", "y")
        for word in ("some", "every"):
            self.assertEqual(self.free((word, "x", both)), ("y",))
            self.assertEqual(self.free((word, "z", both)), ("x", "y"))
            self.assertEqual(self.free((word, "x", (word, "y", both))), ())
            self.assertEqual(self.free(("and", (word, "x", both), ("first", "x"))), ("x", "y"))
            self.assertEqual(self.free((word, "x", ("and", ("first", "x"), (word, "x", both)))), ("y",))
            self.assertEqual(self.free((word, "x", ("and", (word, "x", both), ("first", "x")))), ("y",))

    def test_free_in_more(self):
        both = ("same", "x", "y")
        self.assertEqual(self.free(("more", "x", both, "y", both)), ("x", "y"))
        self.assertEqual(self.free(("more", "x", both, "x", both)), ("y",))
        self.assertEqual(self.free(("more", "x", ("first", "x"), "y", ("first", "y"))), ())
        self.assertEqual(self.free(("more", "y", ("first", "x"), "x", ("last", "y"))), ("x", "y"))

    def test_free_in_walks(self):
        self.assertEqual(self.free(("walk", ("a",), ("b",), EDGE, ("x",), ("y",))), ("x", "y"))
        self.assertEqual(self.free(("walk", ("a",), ("b",), EDGE, ("a",), ("b",))), ("a", "b"))
        self.assertEqual(self.free(("walk", ("a",), ("b",), ("rel", "r", ("a", "b", "c")), ("x",), ("x",))),
                         ("c", "x"))
        self.assertEqual(self.free(("walk", ("a", "b"), ("c", "d"), ("and", EDGE, ("same", "c", "e")),
                                    ("x", "c"), ("x", "y"))), ("c", "e", "x", "y"))
        self.assertEqual(self.free(("some", "a", ("walk", ("a",), ("b",), EDGE, ("a",), ("b",)))), ("b",))
        inner = ("walk", ("a",), ("b",), ("rel", "r", ("a", "b", "c")), ("c",), ("d",))
        self.assertEqual(self.free(("walk", ("c",), ("e",), inner, ("x",), ("y",))), ("d", "x", "y"))

    def test_uses(self):
        tree = ("walk", ("a",), ("b",), ("and", EDGE, ("some", "x", ("rel", "q", ("x", "x", "a")))), ("x",), ("y",))
        self.assertEqual(Question(tree).uses, (("edge", 2), ("q", 3)))
        tree = ("more", "x", ("rel", "b", ("x",)), "x", ("not", ("or", ("rel", "a10", ("x",)),
                                                                ("and", ("rel", "a", ("x", "x")), ("rel", "b", ("y",))))))
        self.assertEqual(Question(tree).uses, (("a", 2), ("a10", 1), ("b", 1)))
        self.assertEqual(Question(("same", "x", "y")).uses, ())

    def test_bare(self):
        for tree in (ATOM, EDGE, ("not", ("and", EDGE, ("or", ATOM, EDGE))), ("same", "x", "y")):
            self.assertIs(Question(tree).bare, True)
        for tree in GOOD_TREES:
            expected = tree[0] not in ("some", "every", "more", "walk")
            for outer in (tree, ("not", tree), ("and", ATOM, ("or", tree, EDGE)), ("or", ("not", tree), ATOM)):
                self.assertIs(Question(outer).bare, expected)

    def test_ordered(self):
        plain = ("same", "x", "y")
        for word in ("before", "next", "first", "last"):
            tree = (word, "x") if word in ("first", "last") else (word, "x", "y")
            for outer in (tree, ("not", tree), ("and", plain, tree), ("some", "x", tree),
                          ("more", "x", plain, "y", tree), ("walk", ("a",), ("b",), tree, ("x",), ("y",))):
                self.assertIs(Question(outer).ordered, True)
        for tree in (plain, EDGE, ("walk", ("a",), ("b",), EDGE, ("x",), ("y",)), ("some", "x", plain),
                     ("more", "x", plain, "y", EDGE), ("not", ("and", plain, ("every", "x", EDGE)))):
            self.assertIs(Question(tree).ordered, False)

    def test_kinds(self):
        question = Question(lists(("walk", ("a",), ("b",), EDGE, ("y",), ("x",))))
        self.assertIsInstance(question.free, tuple)
        self.assertFalse(has_list((question.free,)))
        self.assertIsInstance(question.uses, tuple)
        self.assertFalse(has_list(question.uses))


class Keeping(unittest.TestCase):
    def test_later_changes_have_no_effect(self):
        for tree in GOOD_TREES:
            given = lists(tree)
            question = Question(given)
            self.assertEqual(given, lists(tree))
            stack = [given]
            while stack:
                part = stack.pop()
                stack.extend(member for member in part if isinstance(member, list))
                part.append("spoilt")
                part[0] = "spoilt"
            self.assertEqual(question.tree, tree)
            self.assertEqual(question.free, Question(tree).free)

    def test_walk_keeps_its_sequences(self):
        left, right, start, goal = ["a"], ["b"], ["x"], ["y"]
        question = walk(left, right, Question(EDGE), start=start, goal=goal)
        for row in (left, right, start, goal):
            row.append("c")
        self.assertEqual(question.tree, ("walk", ("a",), ("b",), EDGE, ("x",), ("y",)))


class Operators(unittest.TestCase):
    def test_trees(self):
        p, q = Question(ATOM), Question(EDGE)
        self.assertEqual((p & q).tree, ("and", ATOM, EDGE))
        self.assertEqual((p | q).tree, ("or", ATOM, EDGE))
        self.assertEqual((~p).tree, ("not", ATOM))
        self.assertEqual((~(p & q) | p).tree, ("or", ("not", ("and", ATOM, EDGE)), ATOM))
        self.assertEqual((q & p).free, ("a", "b", "x"))
        self.assertIsInstance(~p, Question)
        self.assertEqual((p.tree, q.tree), (ATOM, EDGE))

    def test_too_deep(self):
        deep = Question(nested(40, lambda tree: ("not", tree)))
        small = Question(ATOM)
        for make in (lambda: ~deep, lambda: deep & small, lambda: small & deep, lambda: deep | small,
                     lambda: small | deep):
            self.assertRaises(BadQuestion, make)

    def test_too_many(self):
        large, small = Question(("not", ands(10000))), Question(ATOM)
        for make in (lambda: ~large, lambda: large & small, lambda: small | large, lambda: large & large):
            self.assertRaises(BadQuestion, make)
        half = Question(ands(5000))
        self.assertEqual((half & half).tree, ("and", half.tree, half.tree))

    def test_two_numbers_of_variables(self):
        p, q = rel("r", "x"), rel("r", "x", "y")
        self.assertRaises(BadQuestion, lambda: p & q)
        self.assertRaises(BadQuestion, lambda: q | p)

    def test_equal(self):
        for tree in GOOD_TREES:
            for other in GOOD_TREES:
                self.assertIs(Question(tree) == Question(lists(other)), tree == other)
                self.assertIs(Question(tree) != Question(lists(other)), tree != other)

    def test_equal_means_equal_trees_alone(self):
        self.assertFalse(same("x", "y") == same("y", "x"))
        self.assertFalse(some("x", is_first("x")) == some("y", is_first("y")))
        self.assertFalse(~~is_first("x") == is_first("x"))

    def test_not_equal_to_other_objects(self):
        question = Question(ATOM)
        for other in (ATOM, list(ATOM), None, 0, "first(x)", object()):
            self.assertFalse(question == other)
            self.assertTrue(question != other)
            self.assertFalse(other == question)


class Functions(unittest.TestCase):
    def test_atoms(self):
        self.assertEqual(rel("edge", "x", "y").tree, ("rel", "edge", ("x", "y")))
        self.assertEqual(rel("m", "x").tree, ("rel", "m", ("x",)))
        self.assertEqual(rel("t", "x", "y", "x").tree, ("rel", "t", ("x", "y", "x")))
        self.assertEqual(same("x", "y").tree, ("same", "x", "y"))
        self.assertEqual(before(v="x", w="y").tree, ("before", "x", "y"))
        self.assertEqual(following("x", w="y").tree, ("next", "x", "y"))
        self.assertEqual(is_first("x").tree, ("first", "x"))
        self.assertEqual(is_last(v="x").tree, ("last", "x"))

    def test_bindings(self):
        p, q = is_first("x"), rel("edge", "x", "y")
        self.assertEqual(some("x", p).tree, ("some", "x", p.tree))
        self.assertEqual(every(v="y", question=q).tree, ("every", "y", q.tree))
        self.assertEqual(more("x", p, "y", q).tree, ("more", "x", p.tree, "y", q.tree))
        self.assertEqual(more(v="x", one=p, w="x", two=q).tree, ("more", "x", p.tree, "x", q.tree))

    def test_walk(self):
        step = rel("edge", "a", "b")
        expected = ("walk", ("a",), ("b",), EDGE, ("x",), ("y",))
        self.assertEqual(walk(("a",), ["b"], step, start=["x"], goal=("y",)).tree, expected)
        self.assertEqual(walk(left=["a"], right=("b",), step=step, goal=("y",), start=("x",)).tree, expected)
        with self.assertRaises(TypeError):
            walk(("a",), ("b",), step, ("x",), ("y",))

    def test_bad_names(self):
        p = is_first("x")
        for name in BAD_NAMES:
            for make in (lambda: rel(name, "x"), lambda: rel("r", name), lambda: rel("r", "x", name),
                         lambda: same(name, "x"), lambda: same("x", name), lambda: before(name, "x"),
                         lambda: before("x", name), lambda: following(name, "x"), lambda: following("x", name),
                         lambda: is_first(name), lambda: is_last(name), lambda: some(name, p),
                         lambda: every(name, p), lambda: more(name, p, "x", p), lambda: more("x", p, name, p),
                         lambda: walk((name,), ("b",), p, start=("x",), goal=("y",)),
                         lambda: walk(("a",), (name,), p, start=("x",), goal=("y",)),
                         lambda: walk(("a",), ("b",), p, start=(name,), goal=("y",)),
                         lambda: walk(("a",), ("b",), p, start=("x",), goal=(name,))):
                with self.subTest(name=name):
                    self.assertRaises(BadQuestion, make)

    def test_bad_numbers(self):
        self.assertRaises(BadQuestion, rel, "r")
        self.assertRaises(BadQuestion, rel, "r", "x", "y", "z", "x")
        self.assertRaises(BadQuestion, rel, "r", ("x", "y"))
        p = is_first("x")
        self.assertRaises(BadQuestion, walk, (), (), p, start=(), goal=())
        self.assertRaises(BadQuestion, walk, "a", "b", p, start="x", goal="y")
        self.assertRaises(BadQuestion, walk, ("a",), ("a",), p, start=("x",), goal=("y",))
        self.assertRaises(BadQuestion, walk, ("a",), ("b",), p, start=("x", "x"), goal=("y",))
        names = tuple("c" + str(at) for at in range(122))
        walk(names[:60], names[60:120], p, start=("x",) * 60, goal=("y",) * 60)
        self.assertRaises(BadQuestion, walk, names[:61], names[61:], p, start=("x",) * 61, goal=("y",) * 61)

    def test_too_deep_and_too_many(self):
        deep = Question(nested(40, lambda tree: ("not", tree)))
        large = Question(("not", ands(10000)))
        p = is_first("x")
        for question in (deep, large):
            for make in (lambda: some("x", question), lambda: every("x", question),
                         lambda: more("x", question, "y", p), lambda: more("x", p, "y", question),
                         lambda: walk(("a",), ("b",), question, start=("x",), goal=("y",))):
                self.assertRaises(BadQuestion, make)

    def test_two_numbers_of_variables(self):
        p, q = rel("r", "x"), rel("r", "x", "y")
        self.assertRaises(BadQuestion, more, "x", p, "y", q)


if __name__ == "__main__":
    unittest.main()
