"""What several checkers ask of things of any kind."""


def is_number(thing):
    """Whether it is a whole number."""
    # Python counts True and False as whole numbers; here they are none.
    return isinstance(thing, int) and not isinstance(thing, bool)


def is_within(thing, low, high):
    """Whether it is a number from low to high."""
    return is_number(thing) and low <= thing <= high


def is_pair(thing):
    """Whether it is a tuple of two things."""
    return isinstance(thing, tuple) and len(thing) == 2


def is_listed(thing):
    """Whether it may stand where a list is named."""
    return isinstance(thing, (list, tuple))


def is_row(thing):
    """Whether it is a row."""
    return isinstance(thing, str) and all([sign in "01" for sign in thing])


def are_numbers(thing, many):
    """Whether it is a list of so many numbers."""
    return is_listed(thing) and len(thing) == many and all([is_number(each) for each in thing])


def are_sizes(p, q):
    """Whether both are numbers from 0 on, as those of bits in a part and in a block are."""
    return is_number(p) and is_number(q) and p >= 0 and q >= 0
