"""What is looked at first when a question is asked: its side, its relations and its things."""

from onceread.errors import BadSide, BadValues, NoSuchRelation, NotAWalk, Unvalued
from onceread.kinds import are_different_names, is_name, is_sequence, is_thing

SIDES = ("yes", "no")
MOST_ANSWERED = 4


def check_side(side):
    """Raise BadSide if it is no side of a question."""
    if side not in SIDES:
        raise BadSide(side)


def check_walk(question):
    """Raise NotAWalk if the tree of the question is no walk."""
    if question.tree[0] != "walk":
        raise NotAWalk()


def check_relations(uses, world):
    """Raise NoSuchRelation for the first pair of a name and an arity that the world has not."""
    for name, arity in uses:
        if name not in world.names or world.arity(name) != arity:
            raise NoSuchRelation(name)


def is_value(value, size):
    """Is it a pair of a variable and a thing?"""
    if not is_sequence(value) or len(value) != 2:
        return False
    return is_name(value[0]) and is_thing(value[1], size)


def checked_values(world, values):
    """A dict that gives the thing for each variable."""
    if not is_sequence(values):
        raise BadValues()
    things = {}
    for value in values:
        if not is_value(value, world.size) or value[0] in things:
            raise BadValues()
        things[value[0]] = value[1]
    return things


def check_valued(free, variables):
    """Raise Unvalued for the first one of the free variables that is not among these."""
    for name in free:
        if name not in variables:
            raise Unvalued(name)


def checked_things(question, world, values):
    """The dict of the things for a question that is asked with these values."""
    check_relations(question.uses, world)
    things = checked_values(world, values)
    check_valued(question.free, list(things))
    return things


def checked_variables(question, world, variables):
    """The variables for which a question is answered."""
    check_relations(question.uses, world)
    if not are_different_names(variables, MOST_ANSWERED):
        raise BadValues()
    check_valued(question.free, variables)
    return tuple(variables)
