"""The letters of the rounds in which it is shown that nothing leads to a goal.

They are spelled with the help of an object, called `field` here, with these methods:
all_places(), a list of all places that have to be claimed or not; way_letters(edges), the letters
of a way; denial_letters(place, target), the letters that deny that a step leads from a place to
a target.
"""

from onceread.graphs import Forward, Toward, edges_into, least_way


class Circles:
    """All places within so many steps of a start, with the least ways to them."""

    def __init__(self, graph, start):
        whole = Forward(graph, start)
        whole.find_all()
        self._graph = graph
        self._start = start
        self._lengths = whole.lengths
        self._into = edges_into(graph, whole.lengths, max(list(whole.lengths.values())))
        self._forward = Forward(graph, start)
        self._most = 0

    def next_ways(self):
        """Allow one step more. Returns a dict of the edges of the least way for each place."""
        self._forward.go_on()
        self._most += 1
        ways = {}
        for place, length in self._forward.lengths.items():
            toward = Toward(self._into, place, self._lengths, length)
            ways[place] = least_way(self._graph, toward, self._start, self._most)
        return ways


def round_letters(graph, start, field):
    """A list of the letters of all rounds."""
    circles = Circles(graph, start)
    shown = {start: []}
    letters = []
    while True:
        ways = circles.next_ways()
        claimed = {place: field.way_letters(edges) for place, edges in ways.items()}
        letters.extend(letters_of_round(field, shown, claimed))
        if len(claimed) == len(shown):
            return letters
        shown = claimed


def letters_of_round(field, shown, claimed):
    """The letters of a round, where the dicts give the ways to what is shown and claimed in it."""
    letters = []
    for place in field.all_places():
        if place in claimed:
            letters.append(1)
            letters.extend(claimed[place])
        else:
            letters.append(0)
            letters.extend(letters_of_unclaimed(field, shown, place))
    return letters


def letters_of_unclaimed(field, shown, target):
    """The letters that stand behind the claim 0 for a target."""
    letters = []
    for place in field.all_places():
        if place in shown:
            letters.append(1)
            letters.extend(shown[place])
            letters.extend(field.denial_letters(place, target))
        else:
            letters.append(0)
    return letters
