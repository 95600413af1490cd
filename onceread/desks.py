"""Desks: a world that is edited, and questions about it whose papers are kept."""

from onceread.errors import BadDeed, NothingToUndo, TakenName, UnknownWatch
from onceread.kinds import is_sequence
from onceread.papers import paper
from onceread.resting import rests_on

# How many members a deed has, by its word.
DEEDS = {"put": 3, "drop": 3, "watch": 4, "unwatch": 2, "undo": 1, "try": 2}
MOST_TRIES = 10


class Watched:
    """A watched question with the paper that is made for it in a world. It never changes."""

    def __init__(self, question, world, values, times):
        side, told = paper(question, world, values=values)
        self.question = question
        self.values_told = tuple([tuple(value) for value in values])
        self.side = side
        self.told = told
        # How often a paper was made for the question.
        self.times = times
        looked = rests_on(question, side, world, told, values)
        self.facts = {(name, row): True for name, row, _ in looked}

    def made_anew(self, world):
        """The same question with a paper for another world."""
        return Watched(self.question, world, self.values_told, self.times + 1)


class Moment:
    """What a desk holds at one time. It never changes."""

    def __init__(self, now, watched, done):
        self.now = now
        self.watched = watched
        # The edits that can be taken back, the last one last: a word, and the fact.
        self.done = done


class Desk:
    """A world that is edited, with watched questions."""

    def __init__(self, world):
        self.moment = Moment(world, {}, ())

    @property
    def world(self):
        """The world as it is now."""
        return self.moment.now

    @property
    def watches(self):
        """The names of the watched questions, ascending."""
        return tuple(sorted(self.moment.watched))

    @property
    def edits(self):
        """The number of edits that can be taken back."""
        return len(self.moment.done)

    def watch(self, name, question, values=()):
        """Begin to watch a question under a name."""
        moment = self.moment
        if name in moment.watched:
            raise TakenName(name)
        watched = dict(moment.watched)
        watched[name] = Watched(question, moment.now, values, 1)
        self.moment = Moment(moment.now, watched, moment.done)

    def unwatch(self, name):
        """End to watch the question of this name."""
        self._find(name)
        moment = self.moment
        watched = dict(moment.watched)
        del watched[name]
        self.moment = Moment(moment.now, watched, moment.done)

    def answer(self, name):
        """The side that is right for the watched question."""
        return self._find(name).side

    def letters(self, name):
        """The letters of the paper that is kept for the watched question."""
        return self._find(name).told

    def made(self, name):
        """How often a paper was made for the watched question."""
        return self._find(name).times

    def put(self, name, row):
        """Let a fact stand. Returns the names of the questions whose paper was made anew."""
        return self._edit("put", name, row, self.moment.now.put(name, row))

    def drop(self, name, row):
        """Let a fact not stand. Returns the names of the questions whose paper was made anew."""
        return self._edit("drop", name, row, self.moment.now.drop(name, row))

    def undo(self):
        """Take back the last edit. Returns the names of the questions whose paper was made anew."""
        moment = self.moment
        if not moment.done:
            raise NothingToUndo()
        word, name, row = moment.done[-1]
        before = moment.now.drop(name, row) if word == "put" else moment.now.put(name, row)
        return self._go_to(before, (name, row), moment.done[:-1])

    def _find(self, name):
        if not isinstance(name, str) or name not in self.moment.watched:
            raise UnknownWatch(name)
        return self.moment.watched[name]

    def _edit(self, word, name, row, world):
        if world == self.moment.now:
            return ()
        edit = (word, name, tuple(row))
        return self._go_to(world, edit[1:], self.moment.done + (edit,))

    def _go_to(self, world, fact, done):
        # The two worlds differ in this fact alone. Nothing changes before all papers are made.
        watched = {}
        anew = []
        for name in self.watches:
            one = self.moment.watched[name]
            if fact in one.facts:
                one = one.made_anew(world)
                anew.append(name)
            watched[name] = one
        self.moment = Moment(world, watched, done)
        return tuple(anew)


class Trial:
    """A block for trying: behind it, the desk is as it was when the block began."""

    def __init__(self, desk):
        self.desk = desk
        self.began = None

    def __enter__(self):
        self.began = self.desk.moment
        return self.desk

    def __exit__(self, kind, value, trace):
        desk = self.desk
        desk.moment = self.began


def check_deeds(deeds, tries):
    """Raise BadDeed unless these are deeds. So many tries stand around them."""
    if not is_sequence(deeds) or tries > MOST_TRIES:
        raise BadDeed()
    for deed in deeds:
        if not is_sequence(deed) or not deed or not isinstance(deed[0], str) or deed[0] not in DEEDS:
            raise BadDeed()
        if len(deed) != DEEDS[deed[0]]:
            raise BadDeed()
        if deed[0] == "try":
            check_deeds(deed[1], tries + 1)


def carry_out_all(desk, deeds):
    """Carry out deeds that are known to be ones. Returns their entries."""
    return tuple([carry_out(desk, deed) for deed in deeds])


def carry_out(desk, deed):
    """Carry out one deed. Returns its entry."""
    word = deed[0]
    if word == "undo":
        return desk.undo()
    if word == "put":
        return desk.put(deed[1], deed[2])
    if word == "drop":
        return desk.drop(deed[1], deed[2])
    if word == "watch":
        desk.watch(deed[1], deed[2], deed[3])
        return ()
    if word == "unwatch":
        desk.unwatch(deed[1])
        return ()
    with Trial(desk):
        entries = carry_out_all(desk, deed[1])
    return entries


def perform(desk, deeds):
    """Carry out deeds in their order. Returns an entry for each of them."""
    check_deeds(deeds, 0)
    return carry_out_all(desk, deeds)
