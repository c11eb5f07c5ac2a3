"""Rows taken apart: into returns, and into what is asked of each shelf."""

from nearstairs.boards import shelf_of
from nearstairs.least import asked_again


def returns_of(row):
    """The list of a row's returns, pairs of places, rising."""
    return [(first, last) for first, last in enumerate(asked_again(row)) if last < len(row)]


def places_by_shelf(shelves, row):
    """For each shelf that a row asks, the rising list of the places at which it does."""
    told = {}
    for at, board in enumerate(row):
        told.setdefault(shelf_of(shelves, board), []).append(at)
    return told


def cheapest_ahead(again, costs, at):
    """For a mark at a place a pair: the least bound of all ahead of it, and the mark ahead of it, -1 for none."""
    within = 0
    choices = []
    for ahead in range(at - 1, -1, -1):
        # A return that begins or ends on a mark doesn't have it between its places, so it counts still.
        if again[ahead] <= at:
            within += 1
        choices.append((costs[ahead] + within, ahead))
    choices.append((within, -1))
    return min(choices)


def least_marks(fee, row):
    """Marks by which the bound of a row of one shelf is least, fee being what each mark adds to it."""
    again = asked_again(row)
    costs = []
    aheads = []
    for at in range(len(row)):
        cost, ahead = cheapest_ahead(again, costs, at)
        costs.append(cost + fee)
        aheads.append(ahead)
    # No return goes beyond the last place: the best marks ahead of one there are the best of all without it.
    marks = []
    mark = aheads[-1] if aheads else -1
    while mark >= 0:
        marks.append(mark)
        mark = aheads[mark]
    return marks[::-1]
