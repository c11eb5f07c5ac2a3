"""What keeps words: a room whose boards have them, and the memory behind all rooms."""

from nearstairs.boards import spots_of
from nearstairs.rooms import Room


class Store:
    """A room whose boards have their words there, and are changed there or not."""

    def __init__(self, room_plan):
        shelves, places, rule, writing = room_plan
        self.room = Room(shelves, places, rule)
        self.late = writing == "late"
        # The words of each board that is there.
        self.held = {}
        # The boards that are changed here, each with True.
        self.fresh = {}

    def has(self, board):
        """Whether a board is there."""
        return self.room.has(board)

    def take_in(self, board, words):
        """A board comes, not changed."""
        self.room.bring(board)
        self.lay(board, words)

    def give_out(self, board):
        """A board goes; told are its words, and whether it was changed."""
        self.room.drop(board)
        return (self.held.pop(board), self.fresh.pop(board, False))

    def words_of(self, board):
        """A new list of a board's words; one that isn't there is refused."""
        self.room.need(board)
        return list(self.held[board])

    def lay(self, board, words):
        """Words are put in the place of those that a board has."""
        self.held[board] = list(words)

    def lay_word(self, board, at, word):
        """One word is put into a board's words."""
        self.held[board][at] = word

    def is_fresh(self, board):
        """Whether a board is changed here."""
        return board in self.fresh

    def freshen(self, board):
        """A board is changed here from now on."""
        self.fresh[board] = True

    def settle(self, board):
        """A board that is changed here is changed no more."""
        self.fresh.pop(board)


class Memory:
    """All words, 0 where none was put; every board lies there."""

    def __init__(self, size):
        self.size = size
        # Each spot's word that isn't 0.
        self.kept = {}

    def has(self, board):
        """Whether a board is there, as each one is."""
        return True

    def words_of(self, board):
        """A new list of a board's words."""
        return [self.kept.get(spot, 0) for spot in spots_of(self.size, board)]

    def lay(self, board, words):
        """Words are put in the place of those that a board has."""
        for spot, word in zip(spots_of(self.size, board), words):
            if word == 0:
                self.kept.pop(spot, 0)
            else:
                self.kept[spot] = word

    def pairs(self):
        """The rising list of pairs (spot, word) of the words that aren't 0."""
        return sorted(self.kept.items())
