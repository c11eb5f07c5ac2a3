"""The refusals: one class for each, all straight under StairError."""


class StairError(ValueError):
    """What every refusal of the program stands under."""


class There(StairError):
    """A board is to be brought that is there already."""


class NotThere(StairError):
    """A board is asked for that isn't there."""


class NoShelf(StairError):
    """There is no shelf of that number."""


class NoFit(StairError):
    """An order of driving out doesn't fit its row."""


class NoStair(StairError):
    """There is no stair of that number."""


class BadRow(StairError):
    """A sheet's row isn't written as it must be, or can't stand where it does."""

    def __init__(self, words, row):
        # Handed on without the row, so that the error's text is its words alone.
        StairError.__init__(self, words)
        self.row = row
