"""Papers that are read, and the rounds in which it is read that nothing leads to a goal.

Rounds are read with the help of an object, called `field` here, that knows the places that
may be claimed. Its methods: first_place() and place_behind(place), which returns None behind the
last one; is_barred(place), for a place that must not be claimed; read_way(place, most), which
reads a way with at most so many steps; read_denial(place, target), which reads that no step
leads from a place to a target. The last two return False if reading fails.
"""

from onceread.kinds import is_between


class Sheet:
    """A paper that is read from its first letter on."""

    def __init__(self, paper):
        self._paper = paper
        self._at = 0

    def next_letter(self, below):
        """Read the next letter, which has to be one of the first things. None if reading fails."""
        if self._at == len(self._paper) or not is_between(self._paper[self._at], 0, below - 1):
            return None
        self._at += 1
        return self._paper[self._at - 1]

    def number_read(self):
        """How many letters are read so far."""
        return self._at

    def is_read_whole(self):
        """Are all letters read?"""
        return self._at == len(self._paper)


def read_rounds(sheet, field):
    """The rounds that are read: triples of number, count and places claimed. None if it fails."""
    rounds = []
    count = 1
    while True:
        claimed = read_round(sheet, field, len(rounds), count)
        if claimed is None:
            return None
        rounds.append((len(rounds), count, tuple(claimed)))
        if len(claimed) == count:
            return tuple(rounds)
        count = len(claimed)


def read_round(sheet, field, most, count):
    """The places that are claimed to lie within one step more than most, or None if it fails."""
    claimed = []
    place = field.first_place()
    while place is not None:
        claim = sheet.next_letter(2)
        if claim is None:
            return None
        if claim == 0:
            if not read_unclaimed(sheet, field, place, most, count):
                return None
        elif field.is_barred(place) or not field.read_way(place, most + 1):
            return None
        else:
            claimed.append(place)
        place = field.place_behind(place)
    return claimed


def read_unclaimed(sheet, field, target, most, count):
    """Read that just so many places lie within most steps, and that none leads to the target."""
    shown = 0
    place = field.first_place()
    while place is not None:
        claim = sheet.next_letter(2)
        if claim is None:
            return False
        if claim == 1:
            shown += 1
            if not field.read_way(place, most) or place == target:
                return False
            if not field.read_denial(place, target):
                return False
        place = field.place_behind(place)
    return shown == count
