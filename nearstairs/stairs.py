"""Stairs of rooms with the memory behind them: what is read and written, and what happens by it."""

from nearstairs.boards import board_of
from nearstairs.steps import Steps


class Stairs(Steps):
    """The rooms of a plan, the nearest one being stair 0, and the memory, the last stair."""

    def __init__(self, plan):
        size, kind, room_plans = plan
        Steps.__init__(self, size, room_plans)
        self.kind = kind

    def read(self, spot):
        """A pair (word, events): the last word written at a spot, and what happened."""
        board = board_of(self.size, spot)
        self.fetch(board)
        return (self.word_in(0, spot), self.happened())

    def write(self, spot, word):
        """A word is written at a spot; told are the events."""
        board = board_of(self.size, spot)
        self.fetch(board)
        self.put_word(0, spot, word)
        self.change(0, board)
        return self.happened()

    def emptied(self):
        """All boards go from all rooms; told are the events."""
        for k in range(self.last):
            for board in self.lies(k):
                words, fresh = self.go_out(k, board)
                if fresh:
                    self.go_on(k + 1, board, words)
        return self.happened()

    def order(self, k, shelf):
        """The boards on a shelf of a stair, the next to go first."""
        return self.store(k).room.shelf(shelf)

    def fetch(self, board):
        """A board is found, and then lies in stair 0."""
        k = self.nearest(board)
        self.tell_found(k)
        if self.kind == "apart":
            self.fetch_apart(k, board)
        else:
            self.fetch_down(k, board)

    def nearest(self, board):
        """The nearest stair in which a board lies."""
        for k, store in enumerate(self.stores):
            if store.has(board):
                return k
        return self.last

    def change(self, k, board):
        """A board's words are new in stair k: it's changed there, or they go on, as the room writes."""
        store = self.stores[k]
        if store.late:
            store.freshen(board)
        else:
            self.go_on(k + 1, board, store.words_of(board))

    def go_on(self, k, board, words):
        """Words go on from stair k, to the first late room in which their board lies, or into the memory."""
        for far in range(k, self.last):
            store = self.stores[far]
            if store.has(board):
                self.put(far, board, words)
                if store.late:
                    store.freshen(board)
                    return
        self.put(self.last, board, words)

    def fetch_down(self, k, board):
        """Of kinds within and free, a board that was found in stair k comes into all nearer ones."""
        if k < self.last:
            self.use_in(k, board)
        words = self.words(k, board)
        for near in range(k - 1, -1, -1):
            out = self.leaver(near, board)
            if out is not None:
                self.drive_out(near, out)
            self.come_in(near, board, words)

    def drive_out(self, k, board):
        """Of kinds within and free, a board goes from stair k for another one."""
        words, fresh = self.go_out(k, board)
        if self.kind == "within":
            for near in range(k - 1, -1, -1):
                if self.stores[near].has(board):
                    # The nearest one's words go on, as they are the last written.
                    words, fresh_near = self.go_out(near, board)
                    fresh = fresh or fresh_near
        if fresh:
            self.go_on(k + 1, board, words)

    def fetch_apart(self, k, board):
        """Of kind apart, a board that was found in stair k is put into stair 0."""
        if k == 0:
            self.use_in(k, board)
        elif k == self.last:
            self.push(0, board, self.words(k, board), False)
        else:
            words, fresh = self.go_out(k, board)
            self.push(0, board, words, fresh)

    def push(self, k, board, words, fresh):
        """Of kind apart, a board is put into stair k, and one that goes for it into the next stair."""
        if k == self.last:
            if fresh:
                self.put(k, board, words)
            return
        out = self.leaver(k, board)
        if out is None:
            self.come_apart(k, board, words, fresh)
            return
        out_words, out_fresh = self.go_out(k, out)
        self.come_apart(k, board, words, fresh)
        self.push(k + 1, out, out_words, out_fresh)

    def come_apart(self, k, board, words, fresh):
        """Of kind apart, a board comes into stair k, changed as it was."""
        self.come_in(k, board, words)
        if fresh:
            # It lies in no other stair, so words that go on from here go straight into the memory.
            self.change(k, board)
