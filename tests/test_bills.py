"""Point 39: bill."""

import unittest

from onceread.bills import bill
from onceread.questions import Question
from onceread.sentences import read_question

import samples
from samples import check_error

ATOM = ("rel", "edge", ("x", "y"))


def names(sign, width):
    return tuple("%s%d" % (sign, at) for at in range(width))


def walk(width, step=("first", "a0"), ends=("x", "y")):
    return "walk", names("a", width), names("b", width), step, (ends[0],) * width, (ends[1],) * width


class Bill(unittest.TestCase):
    def check(self, tree, yes, no):
        """yes and no: the needs of the two sides."""
        question = Question(tree)
        given = len(question.free) + 1
        with self.subTest(tree=str(tree)[:100]):
            self.assertEqual((bill(question, "yes"), bill(question, "no")), (given + yes, given + no))
            denied = Question(("not", tree))
            self.assertEqual((bill(denied, "yes"), bill(denied, "no")), (given + no, given + yes))
            self.assertNotIsInstance(bill(question, "yes"), bool)

    def test_atoms(self):
        for text in ("edge(x, y)", "mark(x)", "tri(x, x, x)", "x = y", "x < y", "next(x, y)", "first(x)", "last(x)"):
            self.check(read_question(text).tree, 0, 0)
        self.assertEqual(bill(read_question("edge(x, y)"), "yes"), 3)
        self.assertEqual(bill(read_question("edge(x, x)"), "no"), 2)
        self.assertEqual(bill(question=read_question("some x: mark(x)"), side="no"), 2)

    def test_joined(self):
        one, two = ("some", "v", ATOM), walk(1)
        for word in ("and", "or"):
            self.check((word, ATOM, ATOM), 0, 0)
            self.check((word, one, ATOM), 1, 1)
            self.check((word, ATOM, one), 1, 1)
            self.check((word, one, two), 2, 10)
            self.check((word, ("not", two), one), 10, 2)
            self.check((word, two, ("not", two)), 10, 10)

    def test_bound(self):
        for word in ("some", "every"):
            self.check((word, "v", ATOM), 1, 1)
            self.check((word, "v", walk(2)), 5, 20)
            self.check((word, "v", ("not", walk(2))), 20, 5)
            self.check((word, "v", (word, "v", (word, "v", ATOM))), 3, 3)

    def test_more(self):
        self.check(("more", "v", ATOM, "v", ATOM), 5, 5)
        self.check(("more", "v", ("some", "w", ATOM), "v", ATOM), 6, 6)
        # The greatest need of both parts and both sides.
        for one, two in ((walk(1), ATOM), (ATOM, walk(1)), (("not", walk(1)), ("some", "w", ATOM))):
            self.check(("more", "v", one, "v", two), 15, 15)
        self.check(("more", "v", ("more", "v", ATOM, "v", ATOM), "v", ATOM), 10, 10)

    def test_walk(self):
        for width in (1, 2, 3, 60):
            self.check(walk(width), 2 * width, 9 * width + 1)
        self.check(walk(2, ("some", "v", ATOM)), 5, 20)
        # For the no, the step is read with both sides; for the yes, with one.
        self.check(walk(2, walk(1)), 6, 29)
        self.check(walk(2, ("not", walk(1))), 14, 29)
        self.check(walk(1, walk(1, walk(1))), 6, 30)

    def test_beyond_the_judges(self):
        self.check(walk(60), 120, 541)
        self.check(walk(60, walk(60, walk(60))), 360, 3 * 541)
        tree = ATOM
        for _ in range(38):
            tree = walk(60, tree)
        self.check(tree, 38 * 120, 38 * 541)

    def test_free_variables(self):
        self.assertEqual(bill(read_question("edge(a, b) and (edge(c, d) or edge(a, d))"), "yes"), 5)
        self.assertEqual(bill(read_question("walk [a -> b: edge(a, z)] x -> y"), "yes"), 3 + 1 + 2)
        self.assertEqual(bill(read_question("walk [a -> b: edge(a, b)] a -> b"), "no"), 2 + 1 + 10)
        tree = ATOM
        for at in range(9):
            tree = ("and", tree, tree)
        self.assertEqual(bill(Question(tree), "no"), 3)

    def test_same_for_equal_questions(self):
        listed = Question(["walk", ["a"], ["b"], ["rel", "edge", ["a", "b"]], ["x"], ["y"]])
        self.assertEqual(bill(listed, "no"), bill(samples.STEPS, "no"))

    def test_errors(self):
        for side in ("", "Yes", "yes ", "never", "taken"):
            check_error(self, samples.BadSide(side), bill, samples.STEPS, side)


if __name__ == "__main__":
    unittest.main()
