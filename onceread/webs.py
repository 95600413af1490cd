"""Everything that a judge can come to, as a world."""

from onceread.reaching import moves_from, reached
from onceread.sentences import read_question
from onceread.worlds import SMALLEST_WORLD, World


def web(judge, world, given=(), *, limit=400):
    """The world of the reached standings, with their moves and with those at a take as goals."""
    standings = reached(judge, world, given, limit=limit)
    places = {standing: at for at, standing in enumerate(standings)}
    goals = []
    led = []
    for at, standing in enumerate(standings):
        if judge.lines[standing[0]][0] == "take":
            goals.append((at,))
        for _, there in moves_from(judge, world, standing):
            led.append((at, places[there]))
    return World(max(SMALLEST_WORLD, len(standings)), [("goal", 1, goals), ("move", 2, led)])


def goal_reached():
    """The question whether moves lead from the thing x to a goal."""
    return read_question("some y: (goal(y) and walk [a -> b: move(a, b)] x -> y)")
