"""What settles whether a judge takes some paper: such a paper, or a counter-paper."""

from onceread.counterpapers import counter_paper
from onceread.seeking import least_letters


def settled(judge, world, given=(), *, limit=20000, longest=100000):
    """The word `taken` with the least paper that is taken, or `never` with the least counter-paper."""
    letters = least_letters(judge, world, given, limit=limit)
    if letters is not None:
        return "taken", letters
    return "never", counter_paper(judge, world, given, limit=limit, longest=longest)
