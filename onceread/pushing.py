"""The pushed form of a question, in which no denial stands above what it can be pushed into."""

from onceread.questions import Question
from onceread.trees import ATOMS

DENIED = {"and": "or", "or": "and", "some": "every", "every": "some"}


def push_tree(tree):
    """The pushed form of a tree."""
    word = tree[0]
    if word in ATOMS:
        return tree
    if word == "not":
        return deny_tree(tree[1])
    if word == "and" or word == "or":
        return (word, push_tree(tree[1]), push_tree(tree[2]))
    if word == "some" or word == "every":
        return (word, tree[1], push_tree(tree[2]))
    if word == "more":
        return (word, tree[1], push_tree(tree[2]), tree[3], push_tree(tree[4]))
    return (word, tree[1], tree[2], push_tree(tree[3]), tree[4], tree[5])


def deny_tree(tree):
    """The pushed form of the denial of a tree."""
    word = tree[0]
    if word == "not":
        return push_tree(tree[1])
    if word == "and" or word == "or":
        return (DENIED[word], deny_tree(tree[1]), deny_tree(tree[2]))
    if word == "some" or word == "every":
        return (DENIED[word], tree[1], deny_tree(tree[2]))
    return ("not", push_tree(tree))


def pushed(question):
    """The question with each denial directly above an atom, a more or a walk."""
    return Question(push_tree(question.tree))
