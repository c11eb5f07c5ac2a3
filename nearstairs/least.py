"""Orders of driving out for a row of boards, and the least misses that one can come to."""

from nearstairs.boards import shelf_of
from nearstairs.errors import NoFit
from nearstairs.things import is_number


def may_go(places, mates, board, out):
    """Whether out is what may go where a board is asked for, mates being those on its shelf."""
    if board in mates or len(mates) < places:
        return out is None
    # True and False are no boards, though Python finds them among the numbers.
    return is_number(out) and out in mates


def come(mates, board, out):
    """A board that isn't on a shelf comes to it, and out goes where it's a board."""
    if out is not None:
        mates.remove(out)
    mates.append(board)


def count_misses(shelves, places, row, order):
    """How many are missed by an order, anything; None where it doesn't fit."""
    if not isinstance(order, list) or len(order) != len(row):
        return None
    standing = [[] for number in range(shelves)]
    missed = 0
    for board, out in zip(row, order):
        mates = standing[shelf_of(shelves, board)]
        if not may_go(places, mates, board, out):
            return None
        if board not in mates:
            missed += 1
            come(mates, board, out)
    return missed


def fits(shelves, places, row, order):
    """Whether an order, anything, is one that fits the row."""
    return count_misses(shelves, places, row, order) is not None


def misses_by(shelves, places, row, order):
    """How many are missed by an order that fits; another one is refused."""
    missed = count_misses(shelves, places, row, order)
    if missed is None:
        raise NoFit("the order doesn't fit the row")
    return missed


def asked_again(row):
    """For each place of a row the next one with the same board, the row's length where there is none."""
    told = []
    behind = {}
    for at in range(len(row) - 1, -1, -1):
        board = row[at]
        told.append(behind.get(board, len(row)))
        behind[board] = at
    return told[::-1]


def farthest(shelves, places, row):
    """The order in which always that board goes which is asked for again latest, or never."""
    standing = [[] for number in range(shelves)]
    again = {}
    order = []
    for board, behind in zip(row, asked_again(row)):
        mates = standing[shelf_of(shelves, board)]
        out = None
        if board not in mates:
            if len(mates) >= places:
                # Never is later than each place; where it's never for several, the greatest number goes.
                latest, out = max([(again[mate], mate) for mate in mates])
            come(mates, board, out)
        again[board] = behind
        order.append(out)
    return order


def least_misses(shelves, places, row):
    """How many are missed at the least, by whichever order fits."""
    return misses_by(shelves, places, row, farthest(shelves, places, row))
