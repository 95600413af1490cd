"""Everything that a judge can come to."""

from onceread.errors import TooMany
from onceread.standings import beginning, carry_out, checked_standing, letters_for, line_behind


def after(judge, world, standing, letter):
    """The standing to which the move with this letter leads."""
    line, things = standing
    row = list(things)
    instruction = judge.lines[line]
    jumped = carry_out(instruction, row, world, letter)
    return line_behind(instruction, line, jumped), tuple(row)


def moves_from(judge, world, standing):
    """The pairs of a letter and a standing for all moves, where the standing is known to be one."""
    letters = letters_for(judge.lines[standing[0]], world.size)
    return tuple([(letter, after(judge, world, standing, letter)) for letter in letters])


def moves(judge, world, standing):
    """The pairs of a letter and a standing for all moves from a standing."""
    return moves_from(judge, world, checked_standing(judge, world, standing))


def reached(judge, world, given=(), *, limit=20000):
    """All standings that the judge can come to, in the order in which they are met."""
    found = [beginning(judge, world, given)]
    met = {found[0]: True}
    at = 0
    while at < len(found):
        for _, standing in moves_from(judge, world, found[at]):
            if standing in met:
                continue
            if len(found) == limit:
                raise TooMany(limit)
            met[standing] = True
            found.append(standing)
        at += 1
    return tuple(found)


def can_take(judge, world, given=(), *, limit=20000):
    """Is there a paper that the judge takes?"""
    standings = reached(judge, world, given, limit=limit)
    return any([judge.lines[line][0] == "take" for line, _ in standings])
