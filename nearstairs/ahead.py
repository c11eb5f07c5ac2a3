"""Told ahead: in which stairs the boards of a row are found, read one behind the other."""

from nearstairs.boards import spots_of
from nearstairs.stairs import Stairs


def found_by(stairs, spot):
    """The stair in which a read of a spot finds its board."""
    word, events = stairs.read(spot)
    name, k = events[0]
    return k


def founds(plan, row):
    """The list of the stairs in which each board of a row is found, in new Stairs."""
    size, kind, rooms = plan
    stairs = Stairs(plan)
    return [found_by(stairs, spots_of(size, board)[0]) for board in row]


def missed_by_stair(plan, row):
    """For each stair, how many of a row were found neither there nor in a nearer one."""
    size, kind, rooms = plan
    told = founds(plan, row)
    return [len([found for found in told if found > k]) for k in range(len(rooms))]
