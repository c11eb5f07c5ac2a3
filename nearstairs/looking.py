"""A looker at runs: what deeds tell, whether something told can be a run, and how often things happen in one."""

from nearstairs.stairs import Stairs
from nearstairs.things import is_number


class Shown(Stairs):
    """Stairs in which of a full shelf that board goes which was told to go, where it stands on it."""

    def __init__(self, plan):
        Stairs.__init__(self, plan)
        # The events told of the deed that is done.
        self.told = []

    def leaver(self, k, board):
        """The board that goes from a stair where this one comes, None where its shelf isn't full."""
        room = self.stores[k].room
        usual = room.leaver_for(board)
        if usual is None:
            return None
        # One that can't go needn't be sought out: what happens then isn't what was told.
        out = self.told_board()
        return out if out in room.mates(board) else usual

    def told_board(self):
        """The board of the told event that stands where the next one will, None where there's none."""
        at = len(self.events)
        if at >= len(self.told) or len(self.told[at]) < 3:
            return None
        return self.told[at][2]


def do_deed(stairs, deed):
    """The events of a deed."""
    if deed[0] == "write":
        return stairs.write(deed[1], deed[2])
    word, events = stairs.read(deed[1])
    return events


def told_run(plan, deeds):
    """The events of each deed, done one behind the other in new Stairs."""
    stairs = Stairs(plan)
    return [do_deed(stairs, deed) for deed in deeds]


def is_event(thing):
    """Whether a thing is formed as an event: a name and one or two numbers."""
    if not isinstance(thing, tuple) or len(thing) not in (2, 3):
        return False
    # Asked ahead of all comparing, as Python holds True and 1 to be the same.
    return isinstance(thing[0], str) and all([is_number(part) for part in thing[1:]])


def are_events(thing):
    """Whether a thing is a list of what is formed as events."""
    return isinstance(thing, list) and all([is_event(part) for part in thing])


def shows_run(plan, deeds, told):
    """Whether told, anything, is what these deeds can tell, whichever board of a full shelf goes."""
    if not isinstance(told, list) or len(told) != len(deeds):
        return False
    shown = Shown(plan)
    for deed, events in zip(deeds, told):
        if not are_events(events):
            return False
        shown.told = events
        if do_deed(shown, deed) != events:
            return False
    return True


def count_events(told, name, many):
    """How many events of a name there are in each of the stairs ahead of many."""
    counts = [0] * many
    for events in told:
        for event in events:
            if event[0] == name:
                counts[event[1]] += 1
    return counts


def tally(plan, told):
    """A tuple (founds, ins, outs, puts): lists of how many of these there are in each stair."""
    size, kind, rooms = plan
    n = len(rooms)
    founds = count_events(told, "found", n + 1)
    ins = count_events(told, "in", n)
    outs = count_events(told, "out", n)
    puts = count_events(told, "words", n + 1)
    return (founds, ins, outs, puts)
