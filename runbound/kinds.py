"""Rooms that are alike: from which just the same rows can be walked."""

from runbound.checks import is_listed, is_pair, is_within
from runbound.machines import is_machine


def parting_bit(room, other):
    """The first bit that leads somewhere from just one of two rooms, None where there is none."""
    for bit in "01":
        if (room[int(bit)] is None) != (other[int(bit)] is None):
            return bit
    return None


def apart(one, a, other, b):
    """The first row that can be walked from just one of two rooms, None where they are alike."""
    # Two rooms come to by a later row are parted by no lesser one, so each two are looked at once.
    seen = {(a, b)}
    layer = [("", a, b)]
    while layer:
        for row, x, y in layer:
            bit = parting_bit(one[x], other[y])
            if bit is not None:
                return row + bit
        wider = []
        for row, x, y in layer:
            for bit in "01":
                pair = (one[x][int(bit)], other[y][int(bit)])
                # Here each bit leads from both or from neither.
                if pair[0] is not None and pair not in seen:
                    seen.add(pair)
                    wider.append((row + bit, pair[0], pair[1]))
        layer = wider
    return None


def is_pair_of_rooms(thing, one, other):
    """Whether it is a pair of a room of one machine and a room of the other."""
    return is_pair(thing) and is_within(thing[0], 0, len(one) - 1) and is_within(thing[1], 0, len(other) - 1)


def leads_to_pairs(one, other, pair, found):
    """Whether each bit leads from neither of a pair, or from both and to a found pair."""
    for bit in (0, 1):
        ahead = (one[pair[0]][bit], other[pair[1]][bit])
        if ahead != (None, None) and ahead not in found:
            return False
    return True


def shows_alike(one, a, other, b, pairs):
    """Whether pairs show that room a of one and room b of other are alike."""
    if not (is_machine(one) and is_machine(other) and is_pair_of_rooms((a, b), one, other)):
        return False
    if not (is_listed(pairs) and all([is_pair_of_rooms(pair, one, other) for pair in pairs])):
        return False
    found = {pair: True for pair in pairs}
    return (a, b) in found and all([leads_to_pairs(one, other, pair, found) for pair in found])


def numbered(signs):
    """The list of the signs' numbers, from 0, as unlike ones first come."""
    numbers = {}
    for sign in signs:
        if sign not in numbers:
            numbers[sign] = len(numbers)
    return [numbers[sign] for sign in signs]


def refined(machine, numbers):
    """Each room's number by its own one and those of the rooms to which its bits lead."""
    led = [[None if lead is None else numbers[lead] for lead in room] for room in machine]
    return numbered([(number, zero, one) for number, (zero, one) in zip(numbers, led)])


def kind_numbers(machine):
    """The list of each room's kind, kinds numbered by their first rooms."""
    numbers = [0 for room in machine]
    finer = refined(machine, numbers)
    while finer != numbers:
        numbers = finer
        finer = refined(machine, numbers)
    return numbers


def kinds(machine):
    """The list of the rising lists of rooms that are alike, by their first rooms."""
    told = []
    for room, kind in enumerate(kind_numbers(machine)):
        # Kinds are numbered as they first come, so a new one is the next.
        if kind == len(told):
            told.append([])
        told[kind].append(room)
    return told


def lessened(machine):
    """A pair: the machine with a room for each kind, and the list of each room's kind."""
    numbers = kind_numbers(machine)
    firsts = [machine[rooms[0]] for rooms in kinds(machine)]
    less = [tuple([None if lead is None else numbers[lead] for lead in room]) for room in firsts]
    return (tuple(less), numbers)
