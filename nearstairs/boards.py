"""Spots of the memory, the boards they lie on, and the shelves that boards stand on."""


def board_of(size, spot):
    """The board that a spot lies on."""
    return spot // size


def spots_of(size, board):
    """The list of a board's spots, rising."""
    first = board * size
    return list(range(first, first + size))


def shelf_of(shelves, board):
    """The number of the shelf that a board stands on."""
    return board % shelves
