"""The desk: a sheet's orders, done one behind the other, and a text for each."""

from nearstairs.errors import NoShelf, NoStair, NotThere
from nearstairs.looking import tally
from nearstairs.sheetrows import read_sheet
from nearstairs.stairs import Stairs


class Desk:
    """Stairs of a plan, with the events of all reads and writes done there so far."""

    def __init__(self, plan):
        self.plan = plan
        self.stairs = Stairs(plan)
        self.told = []


def in_row(things):
    """Things parted by blanks, a stroke where there are none."""
    return " ".join([str(thing) for thing in things]) if things else "-"


def found_in(events):
    """The stair in which a deed found its board."""
    name, k = events[0]
    return k


def answer_read(desk, order):
    """The word, and the stair in which it was found."""
    word, events = desk.stairs.read(order[1])
    desk.told.append(events)
    return f"{word} {found_in(events)}"


def answer_write(desk, order):
    """The stair in which the board was found."""
    events = desk.stairs.write(order[1], order[2])
    desk.told.append(events)
    return str(found_in(events))


def answer_empty(desk, order):
    """How often words were put."""
    return str(len([event for event in desk.stairs.emptied() if event[0] == "words"]))


def answer_lies(desk, order):
    """The boards that lie in a stair."""
    return in_row(desk.stairs.lies(order[1]))


def answer_changed(desk, order):
    """The boards that are changed in a stair."""
    return in_row(desk.stairs.changed(order[1]))


def answer_order(desk, order):
    """The boards on a shelf of a stair, the next to go first."""
    return in_row(desk.stairs.order(order[1], order[2]))


def answer_words(desk, order):
    """A board's words in a stair."""
    return in_row(desk.stairs.words(order[1], order[2]))


def answer_memory(desk, order):
    """The memory's words that aren't 0, each behind its spot."""
    return in_row([f"{spot}:{word}" for spot, word in desk.stairs.memory()])


def answer_tally(desk, order):
    """The tally of all reads and writes so far."""
    return " / ".join([in_row(counts) for counts in tally(desk.plan, desk.told)])


ANSWERS = {
    "read": answer_read,
    "write": answer_write,
    "empty": answer_empty,
    "lies": answer_lies,
    "changed": answer_changed,
    "order": answer_order,
    "words": answer_words,
    "memory": answer_memory,
    "tally": answer_tally,
}


def answer(desk, order):
    """The answer to an order, also where it's refused."""
    deed = ANSWERS[order[0]]
    try:
        return deed(desk, order)
    except NoStair:
        return "refused NoStair"
    except NoShelf:
        return "refused NoShelf"
    except NotThere:
        return "refused NotThere"


def run(text):
    """The list of the answers to a sheet's orders."""
    plan, orders = read_sheet(text)
    desk = Desk(plan)
    return [answer(desk, order) for order in orders]
