"""The words of the library, reckoned in small worlds straight from what the document tells of them."""

import itertools


def closure(pairs, size):
    """Which things reach which ones, no steps included."""
    found = {(thing, thing) for thing in range(size)} | set(pairs)
    while True:
        more = found | {(a, d) for a, b in found for c, d in found if b == c}
        if more == found:
            return found
        found = more


def ways(pairs, start, goal):
    """All ways that meet no thing twice, as rows of things."""
    lot = [(start,)]
    while lot:
        way = lot.pop()
        if way[-1] == goal:
            yield way
        lot += [way + (b,) for a, b in pairs if a == way[-1] and b not in way]


def linked(world, pairs, reach):
    return all((a, b) in reach for a in range(world.size) for b in range(world.size))


def rooted(world, pairs, reach):
    return any(all((a, b) in reach for b in range(world.size)) for a in range(world.size))


def ringless(world, pairs, reach):
    return not any(onring(world, pairs, reach, thing) for thing in range(world.size))


def onring(world, pairs, reach, x):
    return any(a == x and (b, x) in reach for a, b in pairs)


def apart(world, pairs, reach, x, y):
    return (x, y) not in reach and (y, x) not in reach


def through(world, pairs, reach, m, x, y):
    # A way that meets a thing twice meets what a shorter one meets.
    return all(m in way for way in ways(pairs, x, y))


def bridge(world, pairs, reach, x, y):
    left = {pair for pair in pairs | {(b, a) for a, b in pairs} if pair not in ((x, y), (y, x))}
    return (x, y) not in closure(left, world.size)


def noreturn(world, pairs, reach, x, y):
    return (x, y) in closure({(a, b) for a, b in pairs if (b, a) not in reach}, world.size)


def twosided(world, pairs, reach):
    return any(all(lot[a] != lot[b] for a, b in pairs) for lot in itertools.product((0, 1), repeat=world.size))


def reachesmore(world, pairs, reach, x, y):
    return len([b for a, b in reach if a == x]) > len([b for a, b in reach if a == y])


def fillable(world, pairs, reach):
    pp, pn, nn = world.rows("pp"), world.rows("pn"), world.rows("nn")
    return any(all(told[x] or told[y] for x, y in pp) and all(told[x] or not told[y] for x, y in pn)
               and not any(told[x] and told[y] for x, y in nn)
               for told in itertools.product((False, True), repeat=world.size))


def alike(world, pairs, reach, x, y):
    lots = [world.rows("zero"), world.rows("one")]
    good = {thing for (thing,) in world.rows("good")}
    # Sets of things that are come to by one row of letters, for all rows that tell something new.
    found, queue = set(), [(frozenset([x]), frozenset([y]))]
    while queue:
        one, two = queue.pop()
        if (one, two) in found:
            continue
        found.add((one, two))
        if any((p in good) != (q in good) for p in one for q in two):
            return False
        for rows in lots:
            queue.append((frozenset(b for a, b in rows if a in one), frozenset(b for a, b in rows if a in two)))
    return True


RECKONINGS = {"linked": linked, "rooted": rooted, "ringless": ringless, "onring": onring, "apart": apart,
              "through": through, "bridge": bridge, "noreturn": noreturn, "twosided": twosided,
              "reachesmore": reachesmore, "fillable": fillable, "alike": alike}
FREE = {"linked": "", "rooted": "", "ringless": "", "onring": "x", "apart": "xy", "through": "mxy", "bridge": "xy",
        "noreturn": "xy", "twosided": "", "reachesmore": "xy", "fillable": "", "alike": "xy"}
OTHERS = {"fillable": (("nn", 2), ("pn", 2), ("pp", 2)), "alike": (("good", 1), ("one", 2), ("zero", 2))}


def reckoned(word, world, things, relation="edge"):
    """Whether the question of the word holds, for things in the order of the free variables."""
    pairs = set() if word in OTHERS else set(world.rows(relation))
    return RECKONINGS[word](world, pairs, closure(pairs, world.size), *things)


def uses(word, relation="edge"):
    return OTHERS.get(word, ((relation, 2),))


def some_relations(chance, word, size, relation="edge"):
    """Relations for the word, with rows at random."""
    share = chance.choice((0.1, 0.2, 0.3, 0.5))
    return [(name, arity, [row for row in itertools.product(range(size), repeat=arity) if chance.random() < share])
            for name, arity in uses(word, relation)]
