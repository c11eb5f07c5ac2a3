"""One room: boards come and go, and of a full shelf the next to go makes room."""

from nearstairs.boards import shelf_of
from nearstairs.errors import NoShelf, NotThere, There


class Room:
    """A room of so many shelves, with at most so many boards on each as it has places."""

    def __init__(self, shelves, places, rule):
        self.shelves = shelves
        self.places = places
        self.rule = rule
        # Each shelf's boards as they came, the first one first; by rule old a use counts as coming anew.
        self.standing = [[] for number in range(shelves)]
        # How often each board that is there was used since it was brought.
        self.uses = {}

    def has(self, board):
        """Whether a board is there."""
        return board in self.uses

    def bring(self, board):
        """A board that isn't there comes; told is the board that goes for it, else None."""
        if self.has(board):
            raise There(f"board {board} is there already")
        out = self.leaver_for(board)
        if out is not None:
            self.drop(out)
        self.mates(board).append(board)
        self.uses[board] = 0
        return out

    def use(self, board):
        """A board that is there is used."""
        self.need(board)
        self.uses[board] += 1
        if self.rule == "old":
            mates = self.mates(board)
            mates.remove(board)
            mates.append(board)

    def drop(self, board):
        """A board that is there goes."""
        self.need(board)
        self.mates(board).remove(board)
        self.uses.pop(board)

    def boards(self):
        """The rising list of the boards that are there."""
        return sorted(self.uses)

    def shelf(self, number):
        """The boards on a shelf, in the order in which they would go."""
        if not 0 <= number < self.shelves:
            raise NoShelf(f"there is no shelf {number}")
        return self.going(self.standing[number])

    def need(self, board):
        """Refuses a board that isn't there."""
        if not self.has(board):
            raise NotThere(f"board {board} isn't there")

    def mates(self, board):
        """The room's own list of the boards on this board's shelf."""
        return self.standing[shelf_of(self.shelves, board)]

    def leaver_for(self, board):
        """The board that goes where this one comes, None where its shelf isn't full."""
        mates = self.mates(board)
        if len(mates) < self.places:
            return None
        return self.going(mates)[0]

    def going(self, mates):
        """A new list of a shelf's boards, the next to go first."""
        if self.rule == "few":
            # Sorting leaves boards of like uses as they came, so the one brought longest ago goes first.
            return sorted(mates, key=lambda board: self.uses[board])
        return list(mates)
