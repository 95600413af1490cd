"""Sides of trees whose least papers have the same number of letters wherever they hold."""

from onceread.trees import ATOMS


def steady_lengths(node, size, known):
    """The number of letters for the yes and for the no of a tree, None where they differ.

    Puts the pairs of the tree and of all trees in it into the dict `known`, by their numbers.
    """
    pairs = [steady_lengths(part, size, known) for part in node.parts]
    known[node.number] = lengths_from_parts(node.word, pairs, size)
    return known[node.number]


def lengths_from_parts(word, pairs, size):
    """The pair of a tree, where pairs are those of its parts."""
    if word in ATOMS:
        return 0, 0
    if word == "walk":
        return None, None
    yes, no = pairs[0]
    if word == "not":
        return no, yes
    if word == "and":
        return both(yes, pairs[1][0]), one_of(no, pairs[1][1])
    if word == "or":
        return one_of(yes, pairs[1][0]), both(no, pairs[1][1])
    if word == "some":
        return both(yes, 1), times(no, size)
    if word == "every":
        return times(yes, size), both(no, 1)
    # A claim and a paper for each thing, whether it is counted or not.
    one, two = equal(pairs[0]), equal(pairs[1])
    length = times(both(both(one, two), 2), size)
    return length, length


def both(one, two):
    """The sum, if both are known."""
    return None if one is None or two is None else one + two


def equal(pair):
    """What both members are, if they are the same."""
    return pair[0] if pair[0] == pair[1] else None


def one_of(one, two):
    """The number of letters of a claim and of one of two papers that are equally long."""
    return both(equal((one, two)), 1)


def times(one, number):
    """So many times as much, if it is known."""
    return None if one is None else one * number
