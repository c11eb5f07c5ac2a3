"""Rooms that keep words, with the memory behind them, and what happens there, told event by event."""

from nearstairs.boards import board_of
from nearstairs.errors import NoStair
from nearstairs.stores import Memory, Store


class Steps:
    """Rooms of these plans, numbered from 0 on, all empty, and behind them the memory."""

    def __init__(self, size, room_plans):
        self.size = size
        self.stores = [Store(room_plan) for room_plan in room_plans]
        self.bottom = Memory(size)
        # The memory's number, behind those of the rooms.
        self.last = len(self.stores)
        # What happened since it was told last.
        self.events = []

    def lies(self, k):
        """The rising list of the boards that lie in a room."""
        return self.store(k).room.boards()

    def changed(self, k):
        """The rising list of the boards that are changed in a room."""
        return sorted(self.store(k).fresh)

    def words(self, k, board):
        """The list of a board's words in a room or in the memory."""
        if k == self.last:
            return self.bottom.words_of(board)
        return self.store(k).words_of(board)

    def memory(self):
        """The rising list of pairs (spot, word) of the memory's words that aren't 0."""
        return self.bottom.pairs()

    def store(self, k):
        """The room of a number; one that there isn't is refused."""
        if not 0 <= k < self.last:
            raise NoStair(f"there is no stair {k}")
        return self.stores[k]

    def happened(self):
        """The list of what happened since it was told last."""
        events = self.events
        # A new list, as the one that is told is the asker's own from now on.
        self.events = []
        return events

    def leaver(self, k, board):
        """The board that goes from a room where this one comes, None where its shelf isn't full."""
        return self.stores[k].room.leaver_for(board)

    def tell_found(self, k):
        """A board is found in a room or in the memory."""
        self.events.append(("found", k))

    def use_in(self, k, board):
        """A board is used in a room in which it lies."""
        self.stores[k].room.use(board)

    def come_in(self, k, board, words):
        """A board comes into a room that has a place for it."""
        self.stores[k].take_in(board, words)
        self.events.append(("in", k, board))

    def go_out(self, k, board):
        """A board goes from a room; told are its words, and whether it was changed."""
        self.events.append(("out", k, board))
        return self.stores[k].give_out(board)

    def put(self, k, board, words):
        """A board's words are put into a room in which it lies, or into the memory."""
        if k == self.last:
            self.bottom.lay(board, words)
        else:
            self.stores[k].lay(board, words)
        self.events.append(("words", k, board))

    def word_in(self, k, spot):
        """The word of a spot in a room in which its board lies."""
        return self.stores[k].words_of(board_of(self.size, spot))[spot % self.size]

    def put_word(self, k, spot, word):
        """A word is put at a spot of a room in which its board lies; that is no event."""
        self.stores[k].lay_word(board_of(self.size, spot), spot % self.size, word)
