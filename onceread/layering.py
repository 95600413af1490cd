"""The layers of a walk."""

from onceread.asked import check_walk, checked_things
from onceread.nodes import things_for
from onceread.truths import Truth


def layers(question, world, values=()):
    """For each number of steps, the tuples that are reached by just so many and no fewer."""
    check_walk(question)
    things = checked_things(question, world, values)
    truth = Truth(question, world)
    layer = [things_for(question.tree[4], things)]
    found = []
    met = {layer[0]: True}
    while layer:
        found.append(tuple(layer))
        behind = {}
        for here in layer:
            for after in truth.steps(truth.root, things, here):
                if after not in met:
                    met[after] = True
                    behind[after] = True
        layer = sorted(behind)
    return tuple(found)
