"""Trees, of which questions are made: their forms, their parts and their variables."""

from onceread.errors import BadQuestion
from onceread.kinds import LARGEST_ARITY, are_different_names, is_name, is_sequence

# One sign for each member behind the word:
# v a name, s a sequence of variables, t a tree.
FORMS = {
    "rel": "vs", "same": "vv", "before": "vv", "next": "vv", "first": "v", "last": "v",
    "not": "t", "and": "tt", "or": "tt", "some": "vt", "every": "vt", "more": "vtvt",
    "walk": "sstss",
}
ATOMS = ("rel", "same", "before", "next", "first", "last")
BINDERS = ("some", "every", "more", "walk")
ORDERED = ("before", "next", "first", "last")
WIDEST_WALK = 60
DEEPEST_TREE = 40
MOST_TREES = 20000


def parts_of(tree):
    """The trees that stand directly in a tree, in their order."""
    return [member for sign, member in zip(FORMS[tree[0]], tree[1:]) if sign == "t"]


def bound_in_parts(tree):
    """For each part of a tree, in their order, the variables that the tree binds in it."""
    word = tree[0]
    if word == "walk":
        return [tree[1] + tree[2]]
    if word == "more":
        return [(tree[1],), (tree[3],)]
    if word == "some" or word == "every":
        return [(tree[1],)]
    return [() for _ in parts_of(tree)]


def own_variables(tree):
    """The variables that occur in a tree, but in none of its parts."""
    word = tree[0]
    if word == "walk":
        return tree[4] + tree[5]
    if word == "rel":
        return tree[2]
    return tree[1:] if word in ATOMS else ()


def free_from_parts(tree, frees):
    """The free variables of a tree, ascending, where frees are those of each of its parts."""
    found = {name: True for name in own_variables(tree)}
    for bound, free in zip(bound_in_parts(tree), frees):
        for name in free:
            if name not in bound:
                found[name] = True
    return tuple(sorted(found))


def free_in(tree):
    """The free variables of a tree, ascending."""
    return free_from_parts(tree, [free_in(part) for part in parts_of(tree)])


def trees_in(tree):
    """All trees that stand in a tree, itself included."""
    found = [tree]
    at = 0
    while at < len(found):
        for part in parts_of(found[at]):
            found.append(part)
        at += 1
    return found


def is_variables(value):
    """Is it a sequence of names?"""
    return is_sequence(value) and all([is_name(member) for member in value])


def is_walk_of_one_width(tree):
    """Do the sequences of a walk fit together?"""
    _, left, right, _, start, goal = tree
    width = len(left)
    if not 1 <= width <= WIDEST_WALK or len(right) != width:
        return False
    if len(start) != width or len(goal) != width:
        return False
    return are_different_names(list(left) + list(right), 2 * width)


def is_well_formed(tree):
    """Is it a tree, as far as can be seen without a look into its parts?"""
    if not is_sequence(tree) or not tree or not isinstance(tree[0], str) or tree[0] not in FORMS:
        return False
    form = FORMS[tree[0]]
    if len(tree) != len(form) + 1:
        return False
    for sign, member in zip(form, tree[1:]):
        if sign == "v" and not is_name(member):
            return False
        if sign == "s" and not is_variables(member):
            return False
    if tree[0] == "rel":
        return 1 <= len(tree[2]) <= LARGEST_ARITY
    return tree[0] != "walk" or is_walk_of_one_width(tree)


def check_tree(tree):
    """Raise BadQuestion if it is no tree."""
    # A list of what is still to be looked at, since what is handed in may be nested without end.
    waiting = [(tree, 1)]
    arities = {}
    count = 0
    while waiting:
        part, depth = waiting.pop()
        count += 1
        if count > MOST_TREES or depth > DEEPEST_TREE or not is_well_formed(part):
            raise BadQuestion()
        if part[0] == "rel" and arities.setdefault(part[1], len(part[2])) != len(part[2]):
            raise BadQuestion()
        for inner in parts_of(part):
            waiting.append((inner, depth + 1))


def with_tuples(tree):
    """The same tree with tuples throughout."""
    members = [tree[0]]
    for sign, member in zip(FORMS[tree[0]], tree[1:]):
        if sign == "t":
            members.append(with_tuples(member))
        else:
            members.append(tuple(member) if sign == "s" else member)
    return tuple(members)
