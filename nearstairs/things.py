"""What can be asked of anything, whatever it is."""


def is_number(thing):
    """Whether a thing is a number."""
    # Python counts True and False among the whole numbers; here they are none.
    return isinstance(thing, int) and not isinstance(thing, bool)
