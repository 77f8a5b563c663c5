"""Writers: rooms of doors, each with a row, through which any bits are written and read back."""

from runbound.checks import are_sizes, is_pair, is_row, is_within
from runbound.rows import bits_by, blocks_of, number_by, whole_blocks


def is_door(thing, q, many):
    """Whether it is a door with a row of q bits of a writer of so many rooms."""
    return is_pair(thing) and is_row(thing[0]) and len(thing[0]) == q and is_within(thing[1], 0, many - 1)


def is_writer_room(thing, p, q, many):
    """Whether it is a room of a writer of so many rooms."""
    if not isinstance(thing, tuple) or len(thing) != 1 << p:
        return False
    return all([is_door(door, q, many) for door in thing])


def is_writer(thing, p, q):
    """Whether it is a writer of p and q."""
    if not (are_sizes(p, q) and isinstance(thing, tuple) and thing):
        return False
    return all([is_writer_room(room, p, q, len(thing)) for room in thing])


def written(writer, p, room, bits):
    """A pair: the rows of the doors that the bits go through from a room, and the room come to last."""
    rows = []
    here = room
    for part in whole_blocks(bits, p):
        row, here = writer[here][number_by(part)]
        rows.append(row)
    return ("".join(rows), here)


def doors_by(writer, room, block, goals):
    """The rising list of the numbers of a room's doors with this row that lead to one of the goals."""
    return [number for number, (row, end) in enumerate(writer[room]) if row == block and end in goals]


def readable(writer, blocks):
    """The list, for each number of the last blocks, of a dict whose keys are the rooms from which they are written."""
    told = [{room: True for room in range(len(writer))}]
    for block in reversed(blocks):
        told.append({room: True for room in range(len(writer)) if doors_by(writer, room, block, told[-1])})
    return told


def read_all(writer, p, q, room, row):
    """The rising list of all bits of which this row is written from a room."""
    blocks = blocks_of(row, q)
    left = readable(writer, blocks)
    ways = [("", room)] if room in left[-1] else []
    # Only beginnings that some reading goes on from are kept, so there are never more than readings.
    for at, block in enumerate(blocks):
        ways = [
            (bits + bits_by(number, p), writer[here][number][1])
            for bits, here in ways
            for number in doors_by(writer, here, block, left[len(blocks) - at - 1])
        ]
    return [bits for bits, here in ways]


def common_beginning(one, other):
    """The longest row with which two rows of as many bits begin."""
    many = 0
    while many < len(one) and one[many] == other[many]:
        many += 1
    return one[:many]


def surely(writer, p, q, room, row):
    """The longest row with which all bits begin of which this row is written from a room, None where there are none."""
    blocks = blocks_of(row, q)
    left = readable(writer, blocks)
    if room not in left[-1]:
        return None
    parts = []
    here = room
    for at, block in enumerate(blocks):
        numbers = doors_by(writer, here, block, left[len(blocks) - at - 1])
        # All rows between the least and the greatest begin as these two do.
        parts.append(common_beginning(bits_by(numbers[0], p), bits_by(numbers[-1], p)))
        if len(numbers) > 1:
            break
        here = writer[here][numbers[0]][1]
    return "".join(parts)


def room_pairs(writer):
    """The dict whose keys are the pairs of rooms, the lesser one first, of one room twice too."""
    return {(one, other): True for other in range(len(writer)) for one in range(other + 1)}


def pairs_behind(writer, pair, unlike):
    """The rising list of the pairs of rooms behind doors of one row, one door from each room of a pair.

    Where unlike is True, behind those alone whose numbers are unlike.
    """
    return sorted({
        (min(end, goal), max(end, goal))
        for at, (row, end) in enumerate(writer[pair[0]])
        for number, (same, goal) in enumerate(writer[pair[1]])
        if row == same and not (unlike and at == number)
    })


def steps_of(writer):
    """The dict of each pair's pairs behind doors of one row: two ways with the same rows go so."""
    return {pair: pairs_behind(writer, pair, False) for pair in room_pairs(writer)}


def leads_to(pairs, goals):
    """Whether one of the pairs is one of the goals."""
    for pair in pairs:
        if pair in goals:
            return True
    return False


def going_on(steps, pairs):
    """The dict whose keys are those pairs from which a step leads to one of these."""
    return {pair: True for pair in pairs if leads_to(steps[pair], pairs)}


def look_ahead(writer, most):
    """The least n up to most such that from each room the rows of n + 1 doors tell the first one, or None."""
    steps = steps_of(writer)
    parted = [pair for room in range(len(writer)) for pair in pairs_behind(writer, (room, room), True)]
    alike = room_pairs(writer)
    n = 0
    # From these pairs two ways go through n doors more with the same rows.
    while leads_to(parted, alike) and n < most:
        fewer = going_on(steps, alike)
        # What stays as it is stays so for ever.
        if len(fewer) == len(alike):
            return None
        alike = fewer
        n += 1
    return None if leads_to(parted, alike) else n
