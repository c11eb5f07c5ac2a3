"""Two near rooms beside each other, one for each hand, that share a far room and the memory behind it."""

from nearstairs.boards import board_of
from nearstairs.steps import Steps

HANDS = (0, 1)
FAR = 2


class Beside(Steps):
    """Near rooms 0 and 1, the far room 2, which holds all that lies in them, and the memory, 3."""

    def __init__(self, size, near, far):
        Steps.__init__(self, size, (near, near, far))

    def read(self, hand, spot):
        """A pair (word, events): the last word written at a spot by either hand, and what happened."""
        self.fetch_near(hand, board_of(self.size, spot))
        return (self.word_in(hand, spot), self.happened())

    def write(self, hand, spot, word):
        """A word is written at a spot by a hand; told are the events."""
        board = board_of(self.size, spot)
        other = 1 - hand
        self.fetch_near(hand, board)
        if self.stores[other].has(board):
            self.go_out(other, board)
        self.put_word(hand, spot, word)
        near = self.stores[hand]
        if near.late:
            near.freshen(board)
        else:
            self.put_down(board, near.words_of(board))
        return self.happened()

    def emptied(self):
        """All boards go from all rooms; told are the events."""
        for hand in HANDS:
            for board in self.lies(hand):
                self.leave_near(hand, board)
        for board in self.lies(FAR):
            words, fresh = self.go_out(FAR, board)
            if fresh:
                self.put(self.last, board, words)
        return self.happened()

    def fetch_near(self, hand, board):
        """A board is found, and then lies in a hand's near room."""
        if self.stores[hand].has(board):
            self.tell_found(hand)
            self.use_in(hand, board)
            return
        self.fetch_far(board)
        self.settle_near(1 - hand, board)
        out = self.leaver(hand, board)
        if out is not None:
            self.leave_near(hand, out)
        self.come_in(hand, board, self.words(FAR, board))

    def fetch_far(self, board):
        """A board is found in the far room or in the memory, and then lies in the far room."""
        if self.stores[FAR].has(board):
            self.tell_found(FAR)
            self.use_in(FAR, board)
            return
        self.tell_found(self.last)
        out = self.leaver(FAR, board)
        if out is not None:
            self.leave_all(out)
        self.come_in(FAR, board, self.words(self.last, board))

    def settle_near(self, hand, board):
        """Where a board is changed in a hand's near room, its words are put down, and it's changed no more."""
        near = self.stores[hand]
        if near.is_fresh(board):
            self.put_down(board, near.words_of(board))
            near.settle(board)

    def leave_near(self, hand, board):
        """A board goes from a hand's near room, its words being put down where it is changed."""
        words, fresh = self.go_out(hand, board)
        if fresh:
            self.put_down(board, words)

    def leave_all(self, board):
        """A board goes from the far room, and from the near ones, as the far one holds all that lies there."""
        words, fresh = self.go_out(FAR, board)
        for hand in HANDS:
            if self.stores[hand].has(board):
                words_near, fresh_near = self.go_out(hand, board)
                if fresh_near:
                    words, fresh = words_near, True
        if fresh:
            self.put(self.last, board, words)

    def put_down(self, board, words):
        """A board's words are put into the far room, and into the memory where the far room isn't late."""
        self.put(FAR, board, words)
        far = self.stores[FAR]
        if far.late:
            far.freshen(board)
        else:
            self.put(self.last, board, words)
