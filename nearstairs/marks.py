"""Marks on a row of boards: how many returns can be found at most, and so that no order misses less."""

from nearstairs.apart import least_marks, places_by_shelf, returns_of
from nearstairs.boards import shelf_of
from nearstairs.least import count_misses
from nearstairs.things import is_number


def is_marked(shelves, row, marks, first, last):
    """Whether between a return's places there is a mark with a board of its shelf."""
    shelf = shelf_of(shelves, row[first])
    return any([first < mark < last and shelf_of(shelves, row[mark]) == shelf for mark in marks])


def bound(shelves, places, row, marks):
    """How many returns at most are found, as these marks show."""
    free = [first for first, last in returns_of(row) if not is_marked(shelves, row, marks, first, last)]
    # At a mark's place its own board takes a place: of the returns across it one less than places can be found.
    return (places - 1) * len(marks) + len(free)


def marks_of(shelves, places, row):
    """Marks by which bound is least."""
    marks = []
    # A mark parts no return of another shelf, so each shelf's marks are sought by themselves.
    for spots in places_by_shelf(shelves, row).values():
        asked = [row[spot] for spot in spots]
        marks += [spots[at] for at in least_marks(places - 1, asked)]
    return sorted(marks)


def are_marks(row, thing):
    """Whether a thing is a rising list of unlike places of the row."""
    if not isinstance(thing, list):
        return False
    last = -1
    for mark in thing:
        if not is_number(mark) or not last < mark < len(row):
            return False
        last = mark
    return True


def shows_least(shelves, places, row, order, marks):
    """Whether an order and marks, anything, show that the order fits and no order misses less."""
    missed = count_misses(shelves, places, row, order)
    if missed is None or not are_marks(row, marks):
        return False
    return len(row) - bound(shelves, places, row, marks) == missed
