"""The papers that a judge takes."""

from onceread.machines import WAITING
from onceread.reaching import after, moves_from, reached
from onceread.standings import beginning


class Halts:
    """Where a judge comes to in a world: it waits for a letter or takes the paper there.

    It remembers what it has worked out.
    """

    def __init__(self, judge, world):
        self.judge = judge
        self.size = world.size
        self._world = world
        self._halts = {}
        self._ways_on = {}

    def word_at(self, standing):
        """The word of the instruction at a standing."""
        return self.judge.lines[standing[0]][0]

    def takes(self, standing):
        """Is this standing at a take?"""
        return self.word_at(standing) == "take"

    def halt(self, standing):
        """The standing to which the judge goes on without a letter, or None if it is none."""
        passed = {}
        here = standing
        while here not in self._halts:
            word = self.word_at(here)
            if word in WAITING or word == "take":
                self._halts[here] = here
            elif word == "refuse" or here in passed:
                self._halts[here] = None
            else:
                passed[here] = True
                here = after(self.judge, self._world, here, None)
        for one in passed:
            self._halts[one] = self._halts[here]
        return self._halts[here]

    def ways_on(self, standing):
        """The pairs of a letter and the standing at which the judge halts when it has read it."""
        if standing not in self._ways_on:
            found = []
            if not self.takes(standing):
                for letter, behind in moves_from(self.judge, self._world, standing):
                    there = self.halt(behind)
                    if there is not None:
                        found.append((letter, there))
            self._ways_on[standing] = found
        return self._ways_on[standing]


def letters_to(standing, before):
    """The letters that lead to a standing, if before gives the last of them and where it was read."""
    letters = []
    here = standing
    while before[here] is not None:
        here, letter = before[here]
        letters.append(letter)
    return tuple(reversed(letters))


def least_letters(judge, world, given=(), *, limit=20000):
    """The least paper that the judge takes, or None if it takes none."""
    standings = reached(judge, world, given, limit=limit)
    halts = Halts(judge, world)
    start = halts.halt(standings[0])
    if start is None:
        return None
    # Standings are met in the order of the least papers that lead to them.
    queue = [start]
    before = {start: None}
    at = 0
    while at < len(queue):
        here = queue[at]
        at += 1
        if halts.takes(here):
            return letters_to(here, before)
        for letter, there in halts.ways_on(here):
            if there not in before:
                before[there] = (here, letter)
                queue.append(there)
    return None


class Able:
    """From which standings the judge can take after just so many letters.

    Standings are met layer by layer, by the least number of letters that lead to them.
    """

    def __init__(self, halts, start):
        self.halts = halts
        self.layers = [[start]]
        self.met = {start: True}
        self.able = {}

    def look_at(self, length):
        """Find out what is needed for papers of this length, when all lesser lengths are known.

        Returns True if something was found from which the judge can take.
        """
        self._meet(length)
        found = False
        # The deepest standings first: what they can do is asked for by those before them.
        for depth in range(min(length, len(self.layers) - 1), -1, -1):
            for standing in self.layers[depth]:
                told = self._is_able(standing, length - depth)
                self.able[(standing, length - depth)] = told
                found = found or told
        return found

    def is_exhausted(self, idle):
        """Is nothing taken any more, if nothing was found for so many lengths up to this one?"""
        # Then there is a number of letters after which no standing at all takes.
        return not self.layers[-1] and idle >= len(self.layers)

    def choices(self, standing, left):
        """The letters to choose from if just so many are left, and where they lead, descending."""
        found = [(letter, there) for letter, there in self.halts.ways_on(standing)
                 if self.able[(there, left - 1)]]
        return list(reversed(found))

    def _meet(self, length):
        while len(self.layers) <= length and self.layers[-1]:
            behind = []
            for standing in self.layers[-1]:
                for _, there in self.halts.ways_on(standing):
                    if there not in self.met:
                        self.met[there] = True
                        behind.append(there)
            self.layers.append(behind)

    def _is_able(self, standing, left):
        if left == 0:
            return self.halts.takes(standing)
        return any([self.able[(there, left - 1)] for _, there in self.halts.ways_on(standing)])


def papers_of_length(able, start, length):
    """Yield all papers of this length, one at least, that are taken from the start, ascending."""
    letters = []
    waiting = [(0, letter, there) for letter, there in able.choices(start, length)]
    while waiting:
        place, letter, here = waiting.pop()
        del letters[place:]
        letters.append(letter)
        if len(letters) == length:
            yield tuple(letters)
            continue
        for further, there in able.choices(here, length - place - 1):
            waiting.append((place + 1, further, there))


def taken_papers(judge, world, given=(), *, upto):
    """Yield all papers of at most so many letters that the judge takes, the lesser one first."""
    standing = beginning(judge, world, given)
    halts = Halts(judge, world)
    start = halts.halt(standing)
    if start is None:
        return
    if halts.takes(start):
        yield ()
        return
    able = Able(halts, start)
    idle = 0
    for length in range(upto + 1):
        idle = 0 if able.look_at(length) else idle + 1
        if able.is_exhausted(idle):
            return
        if able.able[(start, length)]:
            yield from papers_of_length(able, start, length)
