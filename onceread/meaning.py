"""What a question means in a world."""

from onceread.asked import check_relations, check_valued, checked_things, checked_values, checked_variables
from onceread.errors import BadValues
from onceread.kinds import is_name
from onceread.truths import Truth


def holds(question, world, values=()):
    """Does the question hold in the world?"""
    things = checked_things(question, world, values)
    truth = Truth(question, world)
    return truth.value(truth.root, things)


def answers(question, world, variables):
    """All rows of things, ascending, for which the question holds."""
    names = checked_variables(question, world, variables)
    truth = Truth(question, world)
    return tuple(truth.rows_that_hold(truth.root, {}, names))


def tally(question, world, variable, values=()):
    """The number of things for which the question holds."""
    check_relations(question.uses, world)
    things = checked_values(world, values)
    if not is_name(variable):
        raise BadValues()
    check_valued(question.free, list(things) + [variable])
    truth = Truth(question, world)
    return truth.count(truth.root, things, variable)
