"""Bounds (low0, high0, low1, high1, spread) of runs and sums, and the rows that keep them."""

from runbound.checks import is_within
from runbound.machines import rooms_behind, trimmed

LONGEST_RUN = 8
GREATEST_SPREAD = 16


def is_bounds(thing):
    """Whether it is bounds."""
    if not isinstance(thing, tuple) or len(thing) != 5:
        return False
    low0, high0, low1, high1, spread = thing
    # Each high is asked first: only what is a number may be held against its low.
    if not (is_within(high0, 1, LONGEST_RUN) and is_within(low0, 1, high0)):
        return False
    if not (is_within(high1, 1, LONGEST_RUN) and is_within(low1, 1, high1)):
        return False
    return spread is None or is_within(spread, 1, GREATEST_SPREAD)


def rooms_in_bounds(bounds):
    """The rising list of all (bit, place, level) within the bounds, on endless rows or not."""
    low0, high0, low1, high1, spread = bounds
    levels = [0] if spread is None else list(range(spread + 1))
    return [
        (bit, place, level)
        for bit, high in ((0, high0), (1, high1))
        for place in range(1, high + 1)
        for level in levels
    ]


def room_behind(bounds, room, bit):
    """The (bit, place, level) in which one is behind a bit, None where it ends a run that is too short."""
    low0, high0, low1, high1, spread = bounds
    last, place, level = room
    if spread is not None:
        level += 1 if bit == 1 else -1
    if bit == last:
        return (bit, place + 1, level)
    if place < (low1 if last == 1 else low0):
        return None
    return (bit, 1, level)


def machine_in_bounds(bounds, rooms):
    """The machine of all these rooms, whose walks with an end on either side needn't keep the bounds."""
    # A place above its high or a level out of the spread is no room's, so get tells None of it.
    numbers = {room: at for at, room in enumerate(rooms)}
    return tuple([
        (numbers.get(room_behind(bounds, room, 0)), numbers.get(room_behind(bounds, room, 1)))
        for room in rooms
    ])


def rooms_of(bounds):
    """The rising list of all (bit, place, level) in which one is in an endless row that keeps the bounds."""
    rooms = rooms_in_bounds(bounds)
    less, numbers = trimmed(machine_in_bounds(bounds, rooms))
    return [rooms[number] for number in numbers]


def machine_of(bounds):
    """The machine with a room for each of rooms_of, from some of which just the rows that keep the bounds go."""
    less, numbers = trimmed(machine_in_bounds(bounds, rooms_in_bounds(bounds)))
    return less


def fault_at(bounds, row):
    """None where a row keeps the bounds, else the least n such that its first n bits don't."""
    machine = machine_of(bounds)
    rooms = list(range(len(machine)))
    for at, bit in enumerate(row):
        if not rooms:
            return at
        rooms = rooms_behind(machine, rooms, bit)
    return None if rooms else len(row)


def keeps(bounds, row):
    """Whether a row stands in an endless row that keeps the bounds."""
    return fault_at(bounds, row) is None


def next_bits(bounds, row):
    """The text of the bits, rising, that may stand behind a row such that both keep the bounds."""
    return "".join([bit for bit in "01" if keeps(bounds, row + bit)])
