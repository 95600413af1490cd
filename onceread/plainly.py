"""What the words of the library tell, worked out without questions."""

from onceread.asked import check_relations, check_valued, checked_values
from onceread.lexicon import FREE, check_word, uses_of


def steps_of(rows, size):
    """For each thing a list of the things to which a row leads from it."""
    steps = [[] for _ in range(size)]
    for one, two in rows:
        steps[one].append(two)
    return steps


def along(world, relation):
    """The steps along a relation."""
    return steps_of(world.rows(relation), world.size)


def both_ways(rows):
    """The rows, and each of them the other way round."""
    return [row for one, two in rows for row in ((one, two), (two, one))]


def reached_from(steps, begun):
    """A dict of all things that are reached from some things, these included."""
    found = {thing: True for thing in begun}
    queue = list(found)
    while queue:
        here = queue.pop()
        for thing in steps[here]:
            if thing not in found:
                found[thing] = True
                queue.append(thing)
    return found


def does_reach(steps, one, two):
    """Is the second thing reached from the first one?"""
    return two in reached_from(steps, [one])


def reaches_all(steps, thing):
    """Is every thing reached from this one?"""
    return len(reached_from(steps, [thing])) == len(steps)


def comes_back(steps, thing):
    """Does a thing reach itself by one step or more?"""
    return thing in reached_from(steps, steps[thing])


def is_linked(world, relation, things):
    """Does every thing reach every thing?"""
    steps = along(world, relation)
    return all([reaches_all(steps, thing) for thing in range(world.size)])


def is_rooted(world, relation, things):
    """Does some thing reach every thing?"""
    steps = along(world, relation)
    return any([reaches_all(steps, thing) for thing in range(world.size)])


def is_ringless(world, relation, things):
    """Does no thing come back to itself?"""
    steps = along(world, relation)
    return not any([comes_back(steps, thing) for thing in range(world.size)])


def is_on_ring(world, relation, things):
    """Does x come back to itself?"""
    return comes_back(along(world, relation), things["x"])


def are_apart(world, relation, things):
    """Does neither of x and y reach the other one?"""
    steps = along(world, relation)
    x, y = things["x"], things["y"]
    return not does_reach(steps, x, y) and not does_reach(steps, y, x)


def leads_through(world, relation, things):
    """Does each way from x to y meet m?"""
    m = things["m"]
    if m == things["x"]:
        return True
    rows = [row for row in world.rows(relation) if m not in row]
    return not does_reach(steps_of(rows, world.size), things["x"], things["y"])


def is_bridge(world, relation, things):
    """Is there no way from x to y, in any sense, besides the steps between the two?"""
    x, y = things["x"], things["y"]
    rows = [row for row in both_ways(world.rows(relation)) if row != (x, y) and row != (y, x)]
    return not does_reach(steps_of(rows, world.size), x, y)


def leads_without_return(world, relation, things):
    """Does x reach y by steps of which none can be undone by others?"""
    steps = along(world, relation)
    reached = [reached_from(steps, [thing]) for thing in range(world.size)]
    rows = [row for row in world.rows(relation) if row[0] not in reached[row[1]]]
    return does_reach(steps_of(rows, world.size), things["x"], things["y"])


def is_two_sided(world, relation, things):
    """Can the things be painted with two paints, so that each step has ends of both?"""
    steps = steps_of(both_ways(world.rows(relation)), world.size)
    paints = {}
    for thing in range(world.size):
        if thing not in paints:
            paints[thing] = 0
            if not paint_around(steps, paints, thing):
                return False
    return True


def paint_around(steps, paints, thing):
    """Paint all that hangs together with a thing. False if two neighbours get one paint."""
    queue = [thing]
    while queue:
        here = queue.pop()
        for other in steps[here]:
            if other not in paints:
                paints[other] = 1 - paints[here]
                queue.append(other)
            elif paints[other] == paints[here]:
                return False
    return True


def does_reach_more(world, relation, things):
    """Does x reach more things than y?"""
    steps = along(world, relation)
    return len(reached_from(steps, [things["x"]])) > len(reached_from(steps, [things["y"]]))


def is_fillable(world, relation, things):
    """Can each thing be made true or false, as pp, pn and nn demand it?

    What is settled for some things without a contradiction never has to be taken back.
    """
    forced = forced_by(world)
    settled = {}
    for thing in range(world.size):
        if thing not in settled:
            told = settled_with(forced, settled, thing, True)
            if told is None:
                told = settled_with(forced, settled, thing, False)
            if told is None:
                return False
            settled = told
    return True


def forced_by(world):
    """A dict: for a thing and True or False, the list of such pairs that must then be so, too."""
    forced = {}
    for name, one_holds, two_holds in (("pp", True, True), ("pn", True, False), ("nn", False, False)):
        for one, two in world.rows(name):
            forced.setdefault((one, not one_holds), []).append((two, two_holds))
            forced.setdefault((two, not two_holds), []).append((one, one_holds))
    return forced


def settled_with(forced, settled, thing, told):
    """What is settled, and what follows if this is settled besides. None if it contradicts itself."""
    found = dict(settled)
    queue = [(thing, told)]
    while queue:
        here = queue.pop()
        if here[0] not in found:
            found[here[0]] = here[1]
            queue.extend(forced.get(here, []))
        elif found[here[0]] != here[1]:
            return None
    return found


def are_alike(world, relation, things):
    """Do no rows of letters lead from x and y to things of which just one is good?"""
    lots = [along(world, "zero"), along(world, "one")]
    found = {(things["x"], things["y"]): True}
    queue = list(found)
    while queue:
        one, two = queue.pop()
        if (("good", (one,)) in world) != (("good", (two,)) in world):
            return False
        for pair in [(p, q) for steps in lots for p in steps[one] for q in steps[two]]:
            if pair not in found:
                found[pair] = True
                queue.append(pair)
    return True


PROGRAMS = {
    "linked": is_linked, "rooted": is_rooted, "ringless": is_ringless, "onring": is_on_ring,
    "apart": are_apart, "through": leads_through, "bridge": is_bridge,
    "noreturn": leads_without_return, "twosided": is_two_sided, "reachesmore": does_reach_more,
    "fillable": is_fillable, "alike": are_alike,
}


def plainly(word, world, values=(), relation="edge"):
    """Does the question of a word hold in the world?"""
    check_word(word, relation)
    check_relations(uses_of(word, relation), world)
    things = checked_values(world, values)
    check_valued(FREE[word], things)
    program = PROGRAMS[word]
    return program(world, relation, things)
