"""Point 14: the pushed form."""

import random
import unittest

from onceread.errors import BadQuestion
from onceread.pushing import pushed
from onceread.questions import Question

A, B, C = ("first", "x"), ("rel", "edge", ("x", "y")), ("same", "x", "y")
ATOMS = (A, B, C, ("last", "y"), ("before", "x", "y"), ("next", "y", "x"))


def no(tree):
    return ("not", tree)


def more(p, q):
    return ("more", "v", p, "w", q)


def walk(p):
    return ("walk", ("a", "b"), ("c", "d"), p, ("x", "x"), ("x", "y"))


def ands(leaves, leaf=A):
    row = [leaf] * leaves
    while len(row) > 1:
        row = [("and",) + tuple(row[at:at + 2]) if at + 1 < len(row) else row[at]
               for at in range(0, len(row), 2)]
    return row[0]


def some_tree(chance, depth):
    word = chance.choice(("atom", "not", "not", "and", "or", "some", "every", "more", "walk"))
    if depth == 1 or word == "atom":
        return chance.choice(ATOMS)
    one, two = some_tree(chance, depth - 1), some_tree(chance, depth - 1)
    if word in ("some", "every"):
        return (word, chance.choice("xy"), one)
    if word == "more":
        return ("more", chance.choice("xy"), one, chance.choice("xy"), two)
    return {"not": no(one), "and": ("and", one, two), "or": ("or", one, two), "walk": walk(one)}[word]


def truth(tree, told):
    """The value of a tree in a plain reading where all that stands above a `some` or a `more` is a letter."""
    word = tree[0]
    if word == "not":
        return not truth(tree[1], told)
    if word == "and":
        return truth(tree[1], told) and truth(tree[2], told)
    if word == "or":
        return truth(tree[1], told) or truth(tree[2], told)
    return told[tree]


class Pushed(unittest.TestCase):
    def check(self, tree, expected):
        with self.subTest(tree=tree):
            question = Question(tree)
            found = pushed(question)
            self.assertIsInstance(found, Question)
            self.assertEqual(found.tree, expected)
            self.assertEqual(question.tree, tree)

    def test_push_of_atoms(self):
        for atom in ATOMS:
            self.check(atom, atom)

    def test_deny_of_atoms(self):
        for atom in ATOMS:
            self.check(no(atom), no(atom))

    def test_push_of_all_others(self):
        inner, after = no(no(A)), A
        self.check(("and", inner, no(inner)), ("and", after, no(A)))
        self.check(("or", inner, no(inner)), ("or", after, no(A)))
        self.check(("some", "v", inner), ("some", "v", after))
        self.check(("every", "v", inner), ("every", "v", after))
        self.check(more(inner, no(inner)), more(after, no(A)))
        self.check(walk(inner), walk(after))

    def test_deny_of_not(self):
        self.check(no(no(A)), A)
        self.check(no(no(no(A))), no(A))
        self.check(no(no(no(no(B)))), B)
        self.check(no(no(("and", no(no(A)), B))), ("and", A, B))

    def test_deny_of_and_and_or(self):
        self.check(no(("and", A, B)), ("or", no(A), no(B)))
        self.check(no(("or", A, B)), ("and", no(A), no(B)))
        self.check(no(("and", no(A), ("or", B, no(C)))), ("or", A, ("and", no(B), C)))

    def test_deny_of_some_and_every(self):
        self.check(no(("some", "v", A)), ("every", "v", no(A)))
        self.check(no(("every", "v", A)), ("some", "v", no(A)))
        self.check(no(("some", "v", ("every", "w", no(B)))), ("every", "v", ("some", "w", B)))

    def test_deny_of_more_and_walk(self):
        self.check(no(more(A, B)), no(more(A, B)))
        self.check(no(walk(A)), no(walk(A)))
        self.check(no(more(no(no(A)), no(("and", A, B)))), no(more(A, ("or", no(A), no(B)))))
        self.check(no(walk(no(("some", "v", B)))), no(walk(("every", "v", no(B)))))
        self.check(no(no(walk(no(no(B))))), walk(B))
        self.check(no(no(more(no(no(B)), no(no(A))))), more(B, A))

    def test_deny_within(self):
        self.check(no(("and", walk(no(no(A))), more(A, no(no(B))))), ("or", no(walk(A)), no(more(A, B))))

    def test_order_is_kept(self):
        self.check(no(("or", ("and", A, B), C)), ("and", ("or", no(A), no(B)), no(C)))

    def test_not_stands_above_atoms_more_and_walk_alone(self):
        chance = random.Random(14)
        for _ in range(300):
            tree = some_tree(chance, 6)
            result = pushed(Question(tree)).tree
            stack = [result]
            while stack:
                part = stack.pop()
                stack.extend(member for member in part[1:] if isinstance(member, tuple)
                             and member and member[0] in ("not", "and", "or", "some", "every", "more", "walk"))
                if part[0] == "not":
                    self.assertNotIn(part[1][0], ("not", "and", "or", "some", "every"))
            self.assertEqual(pushed(Question(result)).tree, result)

    def test_means_the_same(self):
        chance = random.Random(15)

        def plain(depth):
            word = chance.choice(("atom", "not", "and", "or"))
            if depth == 1 or word == "atom":
                return chance.choice(ATOMS)
            return no(plain(depth - 1)) if word == "not" else (word, plain(depth - 1), plain(depth - 1))

        for _ in range(200):
            tree = plain(6)
            result = pushed(Question(tree)).tree
            for _ in range(8):
                told = {atom: chance.random() < 0.5 for atom in ATOMS}
                self.assertEqual(truth(tree, told), truth(result, told))

    def test_number_of_trees_of_the_result(self):
        # The result of the denial of n atoms, joined by `and`, has 3 n - 1 trees.
        self.assertEqual(pushed(Question(no(ands(6667)))).tree[0], "or")
        self.assertRaises(BadQuestion, pushed, Question(("some", "v", no(ands(6667)))))
        self.assertRaises(BadQuestion, pushed, Question(no(ands(6668))))
        self.assertRaises(BadQuestion, pushed, Question(no(ands(9999))))
        self.assertEqual(pushed(Question(ands(10000))).tree, ands(10000))

    def test_never_nested_deeper(self):
        tree = A
        for at in range(39):
            tree = no(tree) if at % 3 else ("or", tree, B)
        self.assertIsInstance(pushed(Question(tree)), Question)


if __name__ == "__main__":
    unittest.main()
