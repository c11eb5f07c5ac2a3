"""Plans: of one room, and of stairs of rooms."""

from nearstairs.things import is_number

MOST_SHELVES = 64
MOST_PLACES = 16
MOST_SIZE = 16
MOST_ROOMS = 4

RULES = ("old", "come", "few")
WRITINGS = ("late", "through")
KINDS = ("within", "apart", "free")


def is_count(thing, most):
    """Whether a thing is a number from 1 to most."""
    return is_number(thing) and 1 <= thing <= most


def is_room_plan(thing):
    """Whether a thing is a room's plan: (shelves, places, rule, writing)."""
    if not isinstance(thing, tuple) or len(thing) != 4:
        return False
    shelves, places, rule, writing = thing
    if not is_count(shelves, MOST_SHELVES) or not is_count(places, MOST_PLACES):
        return False
    return rule in RULES and writing in WRITINGS


def are_rooms(thing):
    """Whether a thing is a tuple of one to four rooms' plans."""
    if not isinstance(thing, tuple) or not is_count(len(thing), MOST_ROOMS):
        return False
    return all([is_room_plan(room) for room in thing])


def is_plan(thing):
    """Whether a thing is a plan: (size, kind, rooms)."""
    if not isinstance(thing, tuple) or len(thing) != 3:
        return False
    size, kind, rooms = thing
    return is_count(size, MOST_SIZE) and kind in KINDS and are_rooms(rooms)


def places_of(plan):
    """The list of how many places each of a plan's rooms has, the nearest room first."""
    size, kind, rooms = plan
    return [shelves * places for shelves, places, rule, writing in rooms]
