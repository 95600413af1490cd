"""What right papers are made of, for all trees but walks and atoms.

A piece is a row of letters, and a side of a part with things for its variables. An outline is
a list of pieces: a paper of the tree is, for each piece, its letters and a paper of its part.
"""

from onceread.nodes import bound_to


def piece(letters, part, yes, inner):
    """One piece of an outline."""
    return letters, part, yes, inner


def outlines(truth, node, yes, things):
    """All outlines for the side of a tree that holds, ascending by the letters they begin with."""
    word = node.word
    parts = node.parts
    if word == "not":
        return [[piece((), parts[0], not yes, things)]]
    if word == "and" or word == "or":
        if (word == "and") == yes:
            return [[piece((), part, yes, things) for part in parts]]
        return [[piece((at,), parts[at], yes, things)] for at in range(2)
                if truth.value(parts[at], things) == yes]
    if word == "more":
        return [claimed_pieces(truth, parts[0], node.tree[1], things)
                + claimed_pieces(truth, parts[1], node.tree[3], things)]
    inners = inner_things(truth, node.tree[1], things)
    if (word == "some") != yes:
        return [[piece((), parts[0], yes, inner) for _, inner in inners]]
    return [[piece((thing,), parts[0], yes, inner)] for thing, inner in inners
            if truth.value(parts[0], inner) == yes]


def inner_things(truth, name, things):
    """For each thing, in order, the thing and the things where the name stands for it."""
    return [(thing, bound_to((name,), (thing,), things)) for thing in range(truth.size)]


def claimed_pieces(truth, part, name, things):
    """The pieces for one of the counts of a `more`: what is claimed has to be so."""
    pieces = []
    for _, inner in inner_things(truth, name, things):
        holds = truth.value(part, inner)
        pieces.append(piece((1 if holds else 0,), part, holds, inner))
    return pieces
