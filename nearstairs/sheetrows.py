"""Sheets: texts that tell a plan and orders, row by row."""

from nearstairs.errors import BadRow
from nearstairs.plans import KINDS, MOST_ROOMS, RULES, WRITINGS

FIGURES = "0123456789"
MOST_FIGURES = 9

# What stands behind each row's first word.
FORMS = {
    "size": ("size",),
    "kind": ("kind",),
    "room": ("shelves", "places", "rule", "writing"),
    "read": ("spot",),
    "write": ("spot", "word"),
    "empty": (),
    "lies": ("stair",),
    "changed": ("stair",),
    "order": ("stair", "shelf"),
    "words": ("stair", "board"),
    "memory": (),
    "tally": (),
}

# The least and the greatest of each number there.
BOUNDS = {
    "size": (1, 16),
    "shelves": (1, 64),
    "places": (1, 16),
    "spot": (0, 9999),
    "stair": (0, 4),
    "shelf": (0, 63),
    "board": (0, 9999),
}

# The one row that may stand behind each of these; at the beginning, behind none.
NEXT = {"": "size", "size": "kind", "kind": "room"}


def read_number(word):
    """The number that a word writes, None where it writes none."""
    if not 1 <= len(word) <= MOST_FIGURES or not all([sign in FIGURES for sign in word]):
        return None
    if word[0] == "0" and word != "0":
        return None
    return int(word)


def read_signed(word):
    """The number that a word writes, which may have a minus ahead; None where it writes none."""
    if not word.startswith("-"):
        return read_number(word)
    number = read_number(word[1:])
    # Nought is written without a minus.
    return -number if number else None


def read_bounded(name, word):
    """The number that a word writes, None where it writes none or one beyond its bounds."""
    least, greatest = BOUNDS[name]
    number = read_number(word)
    return number if number is not None and least <= number <= greatest else None


def choices_of(name):
    """The words of which one must stand there."""
    if name == "kind":
        return KINDS
    return RULES if name == "rule" else WRITINGS


def read_part(name, word):
    """What a word says in its place, None where it isn't so written."""
    if name == "word":
        return read_signed(word)
    if name in BOUNDS:
        return read_bounded(name, word)
    return word if word in choices_of(name) else None


def read_row(row):
    """The tuple of a row's words, numbers as numbers; None where it isn't so written."""
    words = row.split(" ")
    names = FORMS.get(words[0])
    if names is None or len(words) != 1 + len(names):
        return None
    parts = [read_part(name, word) for name, word in zip(names, words[1:])]
    return None if None in parts else tuple(words[:1] + parts)


def may_stand(ahead, word):
    """Whether a row of this first word may stand behind rows of those."""
    last = ahead[-1] if ahead else ""
    if last in NEXT:
        return word == NEXT[last]
    if word == "room":
        return last == "room" and ahead.count("room") < MOST_ROOMS
    return word != "size" and word != "kind"


def read_rows(rows):
    """The list of the rows' tuples, empty rows passed over; the first one that can't stand there is refused."""
    told = []
    ahead = []
    for at, row in enumerate(rows):
        if row != "":
            parts = read_row(row)
            if parts is None:
                raise BadRow("the row isn't so written", at)
            if not may_stand(ahead, parts[0]):
                raise BadRow("the row can't stand there", at)
            told.append(parts)
            ahead.append(parts[0])
    return told


def read_sheet(text):
    """A pair (plan, orders) of what a sheet tells."""
    rows = text.split("\n")
    told = read_rows(rows)
    rooms = [parts[1:] for parts in told if parts[0] == "room"]
    if not rooms:
        raise BadRow("there is no room", len(rows))
    size = told[0][1]
    kind = told[1][1]
    return ((size, kind, tuple(rooms)), told[2 + len(rooms):])
