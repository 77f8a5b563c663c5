"""The first rows that join rooms or rows, and the bits that fill the gaps of a row."""

from runbound.bounds import machine_of
from runbound.counting import behind_bit
from runbound.machines import rooms_behind, starts

BITS_AT = {"0": "0", "1": "1", "?": "01"}


def led_farther(machine, layer, seen):
    """The rising list of the first rows, one bit longer, to rooms that aren't seen yet, which become seen."""
    longer = sorted([
        (row + bit, machine[room][int(bit)])
        for row, room in layer
        for bit in "01"
        if machine[room][int(bit)] not in seen
    ])
    told = []
    for row, room in longer:
        if room not in seen:
            seen[room] = True
            told.append((row, room))
    return told


def first_joint(machine, rooms, goals):
    """The first row that leads from one of the rooms to one of the goals, None where there is none."""
    # To be led nowhere counts as seen, so that only rooms are gone on from.
    seen = {None: True}
    for room in rooms:
        seen[room] = True
    ends = set(goals)
    layer = [("", room) for room in rooms]
    while layer:
        for row, room in layer:
            if room in ends:
                return row
        layer = led_farther(machine, layer, seen)
    return None


def joint(machine, a, b):
    """The first row that leads from room a to room b, None where there is none."""
    return first_joint(machine, [a], [b])


def joint_between(bounds, one, other):
    """The first row that between two rows makes one that keeps the bounds, None where there is none."""
    machine = machine_of(bounds)
    rooms = list(range(len(machine)))
    for bit in one:
        rooms = rooms_behind(machine, rooms, bit)
    return first_joint(machine, rooms, starts(machine, other))


def led_into(machine, rooms, sign, goals):
    """Those of the rooms from which a bit that may stand at the sign leads to one of the goals."""
    inside = set(goals)
    return [room for room in rooms if any([machine[room][int(bit)] in inside for bit in BITS_AT[sign]])]


def fillable(machine, holes):
    """The list, for each number of the last signs of holes, of the rooms from which they can be filled."""
    rooms = list(range(len(machine)))
    told = [rooms]
    for sign in reversed(holes):
        told.append(led_into(machine, rooms, sign, told[-1]))
    return told


def filled(bounds, holes):
    """The least row that keeps the bounds and fills the holes, None where there is none."""
    machine = machine_of(bounds)
    left = fillable(machine, holes)
    rooms = left[-1]
    if not rooms:
        return None
    bits = []
    for at, sign in enumerate(holes):
        goals = left[len(holes) - at - 1]
        # Some bit leads on from these rooms, and of both the nought is the least.
        for bit in BITS_AT[sign]:
            going = led_into(machine, rooms, bit, goals)
            if going:
                bits.append(bit)
                rooms = rooms_behind(machine, going, bit)
                break
    return "".join(bits)


def gathered(machine):
    """The machine whose room 0 is all rooms of this one at once, each other one those to which a row leads so."""
    groups = [tuple(range(len(machine)))]
    numbers = {(): None, groups[0]: 0}
    told = []
    while len(told) < len(groups):
        leads = []
        for bit in "01":
            ends = tuple(rooms_behind(machine, groups[len(told)], bit))
            if ends not in numbers:
                numbers[ends] = len(groups)
                groups.append(ends)
            leads.append(numbers[ends])
        told.append(tuple(leads))
    return tuple(told)


def fillings(bounds, holes):
    """How many rows keep the bounds and fill the holes."""
    machine = machine_of(bounds)
    if not machine:
        return 0
    # From one room of several at once each row is walked but once, so that rows are counted, not their walks.
    at_once = gathered(machine)
    left = [1 for room in at_once]
    for sign in reversed(holes):
        left = [
            sum([behind_bit(at_once, left, room, bit) for bit in BITS_AT[sign]])
            for room in range(len(at_once))
        ]
    return left[0]
