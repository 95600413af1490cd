"""The rules by which tokens are read as the tree of a question.

Each function reads from token `at` on, and returns what it has read and then the number of
the token behind it. `around` is the number of units within which the next unit stands.
"""

from onceread.errors import BadText
from onceread.kinds import is_name

MOST_AROUND = 60


def after_sign(tokens, at, sign):
    """The number of the token behind this one, which has to be this sign or word."""
    if tokens[at][0] != sign:
        raise BadText(tokens[at][1])
    return at + 1


def read_name(tokens, at):
    """A name."""
    if not is_name(tokens[at][0]):
        raise BadText(tokens[at][1])
    return tokens[at][0], at + 1


def read_names(tokens, at):
    """One name or several, as far as names follow."""
    name, at = read_name(tokens, at)
    names = [name]
    while is_name(tokens[at][0]):
        names.append(tokens[at][0])
        at += 1
    return tuple(names), at


def read_listed(tokens, at):
    """One name or several with commas between them."""
    name, at = read_name(tokens, at)
    names = [name]
    while tokens[at][0] == ",":
        name, at = read_name(tokens, at + 1)
        names.append(name)
    return tuple(names), at


def read_tree(tokens, at, around):
    """A question: parts with `or` between them."""
    tree, at = read_part(tokens, at, around)
    while tokens[at][0] == "or":
        part, at = read_part(tokens, at + 1, around)
        tree = ("or", tree, part)
    return tree, at


def read_part(tokens, at, around):
    """A part: units with `and` between them."""
    tree, at = read_unit(tokens, at, around)
    while tokens[at][0] == "and":
        unit, at = read_unit(tokens, at + 1, around)
        tree = ("and", tree, unit)
    return tree, at


def read_unit(tokens, at, around):
    """A unit, by its first token."""
    word, place = tokens[at]
    if around >= MOST_AROUND:
        raise BadText(place)
    if word == "not":
        tree, at = read_unit(tokens, at + 1, around + 1)
        return ("not", tree), at
    if word == "(":
        tree, at = read_tree(tokens, at + 1, around + 1)
        return tree, after_sign(tokens, at, ")")
    if word == "some" or word == "every":
        name, tree, at = read_bound(tokens, at + 1, around + 1)
        return (word, name, tree), at
    if word == "more":
        v, one, at = read_bound(tokens, at + 1, around + 1)
        w, two, at = read_bound(tokens, after_sign(tokens, at, "than"), around + 1)
        return (word, v, one, w, two), at
    if word == "walk":
        return read_walk(tokens, at + 1, around + 1)
    return read_atom(tokens, at)


def read_bound(tokens, at, around):
    """A variable, a colon and a question; returned one by one."""
    name, at = read_name(tokens, at)
    tree, at = read_tree(tokens, after_sign(tokens, at, ":"), around)
    return name, tree, at


def read_walk(tokens, at, around):
    """A walk, behind its word."""
    left, right, at = read_arrow(tokens, after_sign(tokens, at, "["))
    step, at = read_tree(tokens, after_sign(tokens, at, ":"), around)
    start, goal, at = read_arrow(tokens, after_sign(tokens, at, "]"))
    return ("walk", left, right, step, start, goal), at


def read_arrow(tokens, at):
    """Names, an arrow and names; returned one by one."""
    one, at = read_names(tokens, at)
    two, at = read_names(tokens, after_sign(tokens, at, "->"))
    return one, two, at


def read_atom(tokens, at):
    """An atom, by its first two tokens."""
    word = tokens[at][0]
    if word in ("first", "last", "next"):
        return read_order_atom(tokens, at)
    name, at = read_name(tokens, at)
    if tokens[at][0] == "(":
        names, at = read_listed(tokens, at + 1)
        return ("rel", name, names), after_sign(tokens, at, ")")
    sign = tokens[at][0]
    if sign not in ("=", "<"):
        raise BadText(tokens[at][1])
    other, at = read_name(tokens, at + 1)
    return ("same" if sign == "=" else "before", name, other), at


def read_order_atom(tokens, at):
    """The first thing, the last thing, or one thing behind another."""
    word = tokens[at][0]
    v, at = read_name(tokens, after_sign(tokens, at + 1, "("))
    if word != "next":
        return (word, v), after_sign(tokens, at, ")")
    w, at = read_name(tokens, after_sign(tokens, at, ","))
    return (word, v, w), after_sign(tokens, at, ")")
