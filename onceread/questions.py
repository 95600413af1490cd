"""Questions, and the functions that make them."""

from onceread.trees import BINDERS, ORDERED, check_tree, free_in, trees_in, with_tuples


class Question:
    """A question. It never changes."""

    def __init__(self, tree):
        check_tree(tree)
        self.tree = with_tuples(tree)
        trees = trees_in(self.tree)
        self._free = free_in(self.tree)
        self._uses = tuple(sorted({(part[1], len(part[2])) for part in trees if part[0] == "rel"}))
        self._bare = not any([part[0] in BINDERS for part in trees])
        self._ordered = any([part[0] in ORDERED for part in trees])

    @property
    def free(self):
        """The free variables, ascending."""
        return self._free

    @property
    def uses(self):
        """The relations with their numbers of variables, ascending."""
        return self._uses

    @property
    def bare(self):
        """Is it without some, every, more and walk?"""
        return self._bare

    @property
    def ordered(self):
        """Does it tell of the order of the things?"""
        return self._ordered

    def __and__(self, other):
        return Question(("and", self.tree, other.tree))

    def __or__(self, other):
        return Question(("or", self.tree, other.tree))

    def __invert__(self):
        return Question(("not", self.tree))

    def __eq__(self, other):
        return isinstance(other, Question) and self.tree == other.tree


def rel(name, *variables):
    """The fact with this name and these things stands."""
    return Question(("rel", name, variables))


def same(v, w):
    """The two are one thing."""
    return Question(("same", v, w))


def before(v, w):
    """v is less than w."""
    return Question(("before", v, w))


def following(v, w):
    """w is the thing behind v."""
    return Question(("next", v, w))


def is_first(v):
    """v is the first thing."""
    return Question(("first", v))


def is_last(v):
    """v is the last thing."""
    return Question(("last", v))


def some(v, question):
    """The question holds for some thing v."""
    return Question(("some", v, question.tree))


def every(v, question):
    """The question holds for every thing v."""
    return Question(("every", v, question.tree))


def more(v, one, w, two):
    """More things v are as the one question says than things w as the other one says."""
    return Question(("more", v, one.tree, w, two.tree))


def walk(left, right, step, *, start, goal):
    """The goal is reached from the start by steps from the left to the right variables."""
    return Question(("walk", left, right, step.tree, start, goal))
