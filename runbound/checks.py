"""What several checkers ask of things of any kind."""


def is_number(thing):
    """Whether it is a whole number."""
    # Python counts True and False as whole numbers; here they are none.
    return isinstance(thing, int) and not isinstance(thing, bool)


def is_within(thing, low, high):
    """Whether it is a number from low to high."""
    return is_number(thing) and low <= thing <= high


def is_pair(thing):
    """Whether it is a tuple of two things."""
    return isinstance(thing, tuple) and len(thing) == 2


def is_listed(thing):
    """Whether it may stand where a list is named."""
    return isinstance(thing, (list, tuple))
