"""What the document says of papers, as plainly as it can be said. The tests compare with this."""

import itertools


class Fails(Exception):
    """Reading fails."""


def rows(size, width):
    return itertools.product(range(size), repeat=width)


def holds(tree, world, things):
    """The meaning of a tree, worked out anew each time."""
    word = tree[0]
    if word == "rel":
        return (tree[1], tuple(things[v] for v in tree[2])) in world
    if word == "same":
        return things[tree[1]] == things[tree[2]]
    if word == "before":
        return things[tree[1]] < things[tree[2]]
    if word == "next":
        return things[tree[1]] + 1 == things[tree[2]]
    if word == "first":
        return things[tree[1]] == 0
    if word == "last":
        return things[tree[1]] == world.size - 1
    if word == "not":
        return not holds(tree[1], world, things)
    if word == "and":
        return holds(tree[1], world, things) and holds(tree[2], world, things)
    if word == "or":
        return holds(tree[1], world, things) or holds(tree[2], world, things)
    if word in ("some", "every"):
        told = [holds(tree[2], world, {**things, tree[1]: thing}) for thing in range(world.size)]
        return any(told) if word == "some" else all(told)
    if word == "more":
        one = sum(holds(tree[2], world, {**things, tree[1]: thing}) for thing in range(world.size))
        two = sum(holds(tree[4], world, {**things, tree[3]: thing}) for thing in range(world.size))
        return one > two
    return tuple(things[v] for v in tree[5]) in distances(tree, world, things)


def between(tree, things, here, after):
    return {**things, **dict(zip(tree[1], here)), **dict(zip(tree[2], after))}


def distances(tree, world, things):
    """For each tuple that is reached, the least number of steps."""
    start = tuple(things[v] for v in tree[4])
    found, layer, number = {start: 0}, [start], 0
    while layer:
        number += 1
        layer = [row for row in rows(world.size, len(start)) if row not in found and any(
            holds(tree[3], world, between(tree, things, here, row)) for here in layer)]
        found.update({row: number for row in layer})
    return found


class Paper:
    """A paper that is read. It keeps the facts that are looked at, and the rounds."""

    def __init__(self, world, letters):
        self.world, self.letters, self.at, self.looked, self.rounds = world, letters, 0, set(), None

    def letter(self, below):
        if self.at >= len(self.letters) or not 0 <= self.letters[self.at] < below:
            raise Fails
        self.at += 1
        return self.letters[self.at - 1]

    def must(self, told):
        if not told:
            raise Fails

    def read(self, tree, yes, things):
        word = tree[0]
        size = self.world.size
        if word in ("rel", "same", "before", "next", "first", "last"):
            told = holds(tree, self.world, things)
            if word == "rel":
                self.looked.add((tree[1], tuple(things[v] for v in tree[2]), told))
            self.must(told == yes)
        elif word == "not":
            self.read(tree[1], not yes, things)
        elif (word, yes) in (("and", True), ("or", False)):
            self.read(tree[1], yes, things)
            self.read(tree[2], yes, things)
        elif word in ("and", "or"):
            self.read(tree[1 + self.letter(2)], yes, things)
        elif (word, yes) in (("some", True), ("every", False)):
            self.read(tree[2], yes, {**things, tree[1]: self.letter(size)})
        elif word in ("some", "every"):
            for thing in range(size):
                self.read(tree[2], yes, {**things, tree[1]: thing})
        elif word == "more":
            counts = []
            for name, part in ((tree[1], tree[2]), (tree[3], tree[4])):
                counts.append(0)
                for thing in range(size):
                    claim = self.letter(2)
                    counts[-1] += claim
                    self.read(part, claim == 1, {**things, name: thing})
            self.must((counts[0] > counts[1]) == yes)
        elif yes:
            self.way(tree, things, tuple(things[v] for v in tree[5]), 10 ** 9)
        else:
            self.no_walk(tree, things)

    def way(self, tree, things, target, most):
        here = tuple(things[v] for v in tree[4])
        made = 0
        while here != target:
            self.must(made < most)
            after = tuple(self.letter(self.world.size) for _ in here)
            self.read(tree[3], True, between(tree, things, here, after))
            here, made = after, made + 1

    def no_walk(self, tree, things):
        goal = tuple(things[v] for v in tree[5])
        self.must(goal != tuple(things[v] for v in tree[4]))
        count, told = 1, []
        for e in itertools.count():
            claimed = []
            for row in rows(self.world.size, len(goal)):
                if self.letter(2) == 1:
                    self.must(row != goal)
                    self.way(tree, things, row, e + 1)
                    claimed.append(row)
                else:
                    shown = 0
                    for other in rows(self.world.size, len(goal)):
                        if self.letter(2) == 1:
                            shown += 1
                            self.way(tree, things, other, e)
                            self.must(other != row)
                            self.read(tree[3], False, between(tree, things, other, row))
                    self.must(shown == count)
            told.append((e, count, tuple(claimed)))
            if len(claimed) == count:
                break
            count = len(claimed)
        self.rounds = tuple(told)


def read(question, side, world, letters, values=()):
    """The paper that was read, or None if it is not right."""
    paper = Paper(world, letters)
    try:
        paper.read(question.tree, side == "yes", dict(values))
    except Fails:
        return None
    return paper if paper.at == len(letters) else None


def is_right(question, side, world, letters, values=()):
    return read(question, side, world, letters, values) is not None


def in_a_row(lots, room):
    """All rows that are made of one member of each lot, as long as there is room."""
    found = [()]
    for lot in lots:
        found = [one + two for one in found for two in lot(room - len(one)) if len(one) + len(two) <= room]
    return found


def spelled(tree, yes, world, things, room):
    """All papers of at most so many letters that are right for a side, in no order."""
    word = tree[0]
    size = world.size
    if room < 0:
        return []
    if word in ("rel", "same", "before", "next", "first", "last"):
        return [()] if holds(tree, world, things) == yes else []
    if word == "not":
        return spelled(tree[1], not yes, world, things, room)

    def lot(part, side, inner, *before):
        return lambda left: [before + row for row in spelled(part, side, world, inner, left - len(before))]

    if (word, yes) in (("and", True), ("or", False)):
        return in_a_row([lot(part, yes, things) for part in tree[1:]], room)
    if word in ("and", "or"):
        return lot(tree[1], yes, things, 0)(room) + lot(tree[2], yes, things, 1)(room)
    if word in ("some", "every"):
        inner = [{**things, tree[1]: thing} for thing in range(size)]
        if (word == "some") == yes:
            return [row for thing in range(size) for row in lot(tree[2], yes, inner[thing], thing)(room)]
        return in_a_row([lot(tree[2], yes, one) for one in inner], room)
    if word == "more":
        if holds(tree, world, things) != yes:
            return []
        lots = []
        for name, part in ((tree[1], tree[2]), (tree[3], tree[4])):
            for thing in range(size):
                inner = {**things, name: thing}
                side = holds(part, world, inner)
                lots.append(lot(part, side, inner, int(side)))
        return in_a_row(lots, room)
    if holds(tree, world, things) != yes:
        return []
    if yes:
        return ways(tree, world, things, tuple(things[v] for v in tree[5]), room, room)
    return in_a_row(no_lots(tree, world, things), room)


def ways(tree, world, things, target, most, room):
    """All ways to a tuple with at most so many steps and letters."""
    start = tuple(things[v] for v in tree[4])
    found, lot = [], [(start, ())]
    while lot:
        found += [letters for here, letters in lot if here == target]
        if most == 0:
            break
        most -= 1
        lot = [(after, letters + after + step) for here, letters in lot if here != target
               for after in rows(world.size, len(start))
               for step in spelled(tree[3], True, world, between(tree, things, here, after),
                                   room - len(letters) - len(after))]
    return found


def no_lots(tree, world, things):
    """The lots of which the no of a walk is made: what is claimed in a right paper has to be so."""
    found = distances(tree, world, things)
    all_of_them = list(rows(world.size, len(tree[1])))

    def way(row, most):
        return lambda left: ways(tree, world, things, row, most, left)

    def one(letter):
        return lambda left: [(letter,)]

    def step(other, row):
        return lambda left: spelled(tree[3], False, world, between(tree, things, other, row), left)

    lots = []
    for e in range(max(found.values()) + 1):
        for row in all_of_them:
            if found.get(row, e + 2) <= e + 1:
                lots += [one(1), way(row, e + 1)]
                continue
            lots.append(one(0))
            for other in all_of_them:
                if found.get(other, e + 1) <= e:
                    lots += [one(1), way(other, e), step(other, row)]
                else:
                    lots.append(one(0))
    return lots


def in_order(papers):
    return sorted(papers, key=lambda paper: (len(paper), paper))


def right_papers(question, side, world, values, upto):
    """All right papers of at most so many letters, the lesser one first."""
    return in_order(spelled(question.tree, side == "yes", world, dict(values), upto))


def least(tree, yes, world, things):
    """The least right paper for the side of a tree that holds, put together from least papers."""
    word = tree[0]
    if word in ("rel", "same", "before", "next", "first", "last"):
        return ()
    if word == "not":
        return least(tree[1], not yes, world, things)

    def lots(names, parts, sides):
        for name, part, told in zip(names, parts, sides):
            for thing in range(world.size):
                inner = {**things, name: thing}
                side = holds(part, world, inner) if told is None else told
                yield thing, side, holds(part, world, inner) == side and least(part, side, world, inner)

    if word in ("and", "or"):
        papers = [least(part, yes, world, things) if holds(part, world, things) == yes else None for part in tree[1:]]
        if (word == "and") == yes:
            return papers[0] + papers[1]
        return in_order((claim,) + letters for claim, letters in enumerate(papers) if letters is not None)[0]
    if word in ("some", "every"):
        papers = [(thing, letters) for thing, _, letters in lots([tree[1]], [tree[2]], [yes])]
        if (word == "some") != yes:
            return sum((letters for _, letters in papers), ())
        return in_order((thing,) + letters for thing, letters in papers if letters is not False)[0]
    if word == "more":
        papers = lots([tree[1], tree[3]], [tree[2], tree[4]], [None, None])
        return sum(((int(side),) + letters for _, side, letters in papers), ())
    goal = tuple(things[v] for v in tree[5])
    if yes:
        return least_ways(tree, world, things, world.size ** len(goal))[goal]
    letters, shown = (), least_ways(tree, world, things, 0)
    for e in itertools.count():
        claimed = least_ways(tree, world, things, e + 1)
        for row in rows(world.size, len(goal)):
            if row in claimed:
                letters += (1,) + claimed[row]
                continue
            letters += (0,)
            for other in rows(world.size, len(goal)):
                if other in shown:
                    step = least(tree[3], False, world, between(tree, things, other, row))
                    letters += (1,) + shown[other] + step
                else:
                    letters += (0,)
        if len(claimed) == len(shown):
            return letters
        shown = claimed


def least_ways(tree, world, things, most):
    """For each tuple within so many steps, the least way to it."""
    found = {tuple(things[v] for v in tree[4]): ()}
    for _ in range(most):
        lot = dict(found)
        for here, letters in found.items():
            for row in rows(world.size, len(here)):
                inner = between(tree, things, here, row)
                if holds(tree[3], world, inner):
                    further = letters + row + least(tree[3], True, world, inner)
                    if row not in lot or (len(further), further) < (len(lot[row]), lot[row]):
                        lot[row] = further
        if lot == found:
            break
        found = lot
    return found


def moves(judge, world, standing):
    """The pairs of a letter and a standing, worked out by the table of point 22."""
    line, row = standing
    word, *told = judge.lines[line]
    size = world.size

    def after(at=None, thing=None, goal=None):
        behind = list(row)
        if at is not None:
            behind[at] = thing
        return line + 1 if goal is None else goal, tuple(behind)

    if word in ("take", "refuse"):
        return ()
    if word == "read":
        return tuple((thing, after(told[0], thing)) for thing in range(size))
    if word == "claim":
        return (0, after()), (1, after(goal=told[0]))
    if word == "zero":
        return (None, after(told[0], 0)),
    if word == "copy":
        return (None, after(told[0], row[told[1]])),
    if word == "step":
        last = row[told[0]] == size - 1
        return (None, after(told[0], 0, told[1]) if last else after(told[0], row[told[0]] + 1)),
    goes = {"go": lambda: True, "first": lambda: row[told[0]] == 0, "same": lambda: row[told[0]] == row[told[1]],
            "fact": lambda: (told[0], tuple(row[at] for at in told[1])) in world}[word]()
    return (None, after(goal=told[-1]) if goes else after()),


def standings(judge, world):
    return [(line, row) for line in range(len(judge.lines)) for row in rows(world.size, judge.registers)]


def is_counter_right(judge, world, letters, given=()):
    """Point 45, read letter by letter."""
    paper = Paper(world, letters)
    start = (0, tuple(given) + (0,) * (judge.registers - len(given)))

    def course(target, most):
        here = start
        for number in itertools.count():
            if here == target:
                return
            told = moves(judge, world, here)
            paper.must(number < most and told)
            here = told[0][1] if told[0][0] is None else told[paper.letter(len(told))][1]

    def rounds():
        count, lots = 1, standings(judge, world)
        for e in itertools.count():
            claimed = 0
            for t in lots:
                if paper.letter(2) == 1:
                    paper.must(judge.lines[t[0]][0] != "take")
                    course(t, e + 1)
                    claimed += 1
                    continue
                shown = 0
                for u in lots:
                    if paper.letter(2) == 1:
                        shown += 1
                        course(u, e)
                        paper.must(u != t and t not in [after for _, after in moves(judge, world, u)])
                paper.must(shown == count)
            if claimed == count:
                return
            count = claimed

    try:
        rounds()
    except Fails:
        return False
    return paper.at == len(letters)


def courses(judge, world, start, most):
    """For each standing, the least letters that lead to it by at most so many moves."""
    found = {start: ()}
    for _ in range(most):
        lot = dict(found)
        for here, letters in found.items():
            for letter, there in moves(judge, world, here):
                further = letters + (() if letter is None else (letter,))
                if there not in lot or (len(further), further) < (len(lot[there]), lot[there]):
                    lot[there] = further
        found = lot
    return found


def counter_paper(judge, world, given=()):
    """The least right counter-paper of a judge that takes no paper."""
    start = (0, tuple(given) + (0,) * (judge.registers - len(given)))
    letters, lots, shown, e = (), standings(judge, world), {start: ()}, 0
    while True:
        claimed = courses(judge, world, start, e + 1)
        for t in lots:
            if t in claimed:
                letters += (1,) + claimed[t]
                continue
            letters += (0,)
            for u in lots:
                letters += (1,) + shown[u] if u in shown else (0,)
        if len(claimed) == len(shown):
            return letters
        shown, e = claimed, e + 1
