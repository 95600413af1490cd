"""All right papers, the lesser one first."""

from onceread.asked import check_side, checked_things
from onceread.counting import Counting
from onceread.portions import Side, Stock


class Pending:
    """Portions that are still to be chosen: one, and those behind it."""

    def __init__(self, portion, rest):
        self.portion = portion
        self.rest = rest
        # With fewer letters they cannot be chosen.
        self.fewest = portion.least() + fewest_of(rest)


def fewest_of(pending):
    """The fewest letters of portions that are still to be chosen; None stands for no portions."""
    return 0 if pending is None else pending.fewest


class Search:
    """The search for the papers that have a certain number of letters."""

    def __init__(self, first):
        self.first = first
        self.length = fewest_of(first)
        # The least number of letters, greater than that, for which something was left out.
        self.beyond = None

    def lengthen(self):
        """Search for papers of the next greater number of letters. False if there are none."""
        if self.beyond is None:
            return False
        self.length = self.beyond
        self.beyond = None
        return True

    def choices(self, pending, place):
        """What can stand at a place, descending: rows of letters, and what is pending then."""
        found = []
        for row, portions in pending.portion.choices():
            behind = pending.rest
            for portion in reversed(portions):
                behind = Pending(portion, behind)
            fewest = place + len(row) + fewest_of(behind)
            if fewest <= self.length:
                found.append((row, behind))
            elif self.beyond is None or fewest < self.beyond:
                self.beyond = fewest
        return list(reversed(found))


def papers_found(search):
    """Yield the papers of the number of letters for which is searched, ascending."""
    letters = []
    waiting = [(0, (), search.first)]
    while waiting:
        place, row, pending = waiting.pop()
        del letters[place:]
        letters.extend(row)
        if pending is None:
            if len(letters) == search.length:
                yield tuple(letters)
            continue
        for further, behind in search.choices(pending, len(letters)):
            waiting.append((len(letters), further, behind))


def right_papers(question, side, world, *, values=(), upto):
    """Yield all right papers of at most so many letters for this side, the lesser one first."""
    check_side(side)
    things = checked_things(question, world, values)
    counting = Counting(question, world)
    root = counting.truth.root
    yes = side == "yes"
    if counting.truth.value(root, things) != yes:
        return
    search = Search(Pending(Side(Stock(counting, upto), root, yes, things), None))
    while search.length <= upto:
        yield from papers_found(search)
        if not search.lengthen():
            return
