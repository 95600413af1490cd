"""Questions as texts."""

from onceread.parsing import after_sign, read_tree
from onceread.questions import Question
from onceread.tokens import END, tokens_of
from onceread.trees import ATOMS


def write_atom(tree):
    """The text of an atom."""
    word = tree[0]
    if word == "rel":
        return tree[1] + "(" + ", ".join(tree[2]) + ")"
    if word == "same":
        return tree[1] + " = " + tree[2]
    if word == "before":
        return tree[1] + " < " + tree[2]
    return word + "(" + ", ".join(tree[1:]) + ")"


def write_walk(tree):
    """The text of a walk."""
    left, right, start, goal = [" ".join(tree[at]) for at in (1, 2, 4, 5)]
    return f"walk [{left} -> {right}: {write_tree(tree[3])}] {start} -> {goal}"


def write_tree(tree):
    """The text of a tree."""
    word = tree[0]
    if word in ATOMS:
        return write_atom(tree)
    if word == "walk":
        return write_walk(tree)
    if word == "not":
        return "not " + write_within(tree[1])
    if word == "and" or word == "or":
        return f"{write_within(tree[1])} {word} {write_within(tree[2])}"
    if word == "more":
        return f"more {tree[1]}: ({write_tree(tree[2])}) than {tree[3]}: ({write_tree(tree[4])})"
    return f"{word} {tree[1]}: {write_tree(tree[2])}"


def write_within(tree):
    """The text of a tree, in brackets where its end could not be seen."""
    if tree[0] in ATOMS or tree[0] == "not" or tree[0] == "walk":
        return write_tree(tree)
    return "(" + write_tree(tree) + ")"


def write_question(question):
    """The text of a question."""
    return write_tree(question.tree)


def read_question(text):
    """The question of a text."""
    tokens = tokens_of(text)
    tree, at = read_tree(tokens, 0, 0)
    after_sign(tokens, at, END)
    return Question(tree)
