"""Rows of boards, asked one behind the other of an empty room."""

from nearstairs.boards import shelf_of
from nearstairs.rooms import Room


def ask(room, board):
    """Asks a room for a board: a pair of whether it was found, and the board that went by it, else None."""
    if room.has(board):
        room.use(board)
        return (True, None)
    return (False, room.bring(board))


def run_row(shelves, places, rule, row):
    """For each board of a row a pair (found, out)."""
    room = Room(shelves, places, rule)
    return [ask(room, board) for board in row]


def misses(shelves, places, rule, row):
    """How many boards of a row are missed."""
    return len([out for found, out in run_row(shelves, places, rule, row) if not found])


def beneath_at(shelves, row, at):
    """How many unlike boards of its shelf stand between a place and the last one ahead with its board, or None."""
    board = row[at]
    between = set()
    for ahead in range(at - 1, -1, -1):
        other = row[ahead]
        if other == board:
            return len(between)
        if shelf_of(shelves, other) == shelf_of(shelves, board):
            between.add(other)
    return None


def beneath(shelves, row):
    """For each place of a row how many unlike boards of its shelf came since its board did, None where it's new."""
    return [beneath_at(shelves, row, at) for at in range(len(row))]


def curve(shelves, row, most):
    """The list of the misses by rule old with 1 to most places."""
    # By old a board is found just where fewer boards lie beneath it than there are places, so one look does.
    counts = beneath(shelves, row)
    return [len([many for many in counts if many is None or many >= places]) for places in range(1, most + 1)]
