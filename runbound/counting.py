"""How many rows can be walked, which one has a number, and which number one has."""

from runbound.errors import NoNumber, NoRow
from runbound.machines import walk


def behind_bit(machine, numbers, room, bit):
    """The number of the room to which a bit leads, 0 where it leads nowhere."""
    lead = machine[room][int(bit)]
    return 0 if lead is None else numbers[lead]


def way_sums(machine, numbers):
    """The list, for each room, of the numbers of the rooms to which its bits lead, together."""
    return [
        behind_bit(machine, numbers, room, "0") + behind_bit(machine, numbers, room, "1")
        for room in range(len(machine))
    ]


def ways(machine, goal, many):
    """The list, for each number of bits up to many, of each room's number of rows to the goal."""
    left = [[1 if goal is None or room == goal else 0 for room in range(len(machine))]]
    for step in range(many):
        left.append(way_sums(machine, left[-1]))
    return left


def counts(machine, many):
    """The list, for each room, of how many rows of so many bits can be walked from it."""
    return ways(machine, None, many)[many]


def counts_to(machine, many, goal):
    """The list, for each room, of how many rows of so many bits lead from it to the goal."""
    return ways(machine, goal, many)[many]


def rows_between(machine, room, goal, many):
    """The rising list of the rows of so many bits from a room to the goal, or anywhere where that is None."""
    left = ways(machine, goal, many)
    walks = [("", room)] if left[many][room] else []
    # Only beginnings that some row goes on from are kept, so there are never more than rows.
    for rest in reversed(range(many)):
        walks = [
            (row + bit, machine[end][int(bit)])
            for row, end in walks
            for bit in "01"
            if behind_bit(machine, left[rest], end, bit)
        ]
    return [row for row, end in walks]


def row_left(machine, left, room, number):
    """The row from a room with that many ahead of it, of as many bits as ways are left for."""
    bits = []
    here = room
    ahead = number
    for further in reversed(left[:-1]):
        by_nought = behind_bit(machine, further, here, "0")
        bit = 0 if ahead < by_nought else 1
        if bit == 1:
            ahead -= by_nought
        bits.append(str(bit))
        here = machine[here][bit]
    return "".join(bits)


def row_at(machine, room, goal, many, number):
    """The row of rows_between with that many ahead of it."""
    left = ways(machine, goal, many)
    if not 0 <= number < left[many][room]:
        raise NoNumber("no row from the room to the goal has this number")
    return row_left(machine, left, room, number)


def number_left(machine, left, room, row):
    """How many rows from a room are ahead of one of them, of as many bits as ways are left for."""
    ahead = 0
    here = room
    for at, bit in enumerate(row):
        if bit == "1":
            ahead += behind_bit(machine, left[len(row) - at - 1], here, "0")
        here = machine[here][int(bit)]
    return ahead


def number_of(machine, room, goal, row):
    """How many rows of rows_between, of as many bits, are ahead of a row."""
    end = walk(machine, room, row)
    if end is None or goal not in (None, end):
        raise NoRow("the row doesn't lead from the room to the goal")
    return number_left(machine, ways(machine, goal, len(row)), room, row)


def last_turn(machine, room, goal, row):
    """The last place of a row where a one for its nought begins a row of rows_between, None where none does."""
    left = ways(machine, goal, len(row))
    turn = None
    here = room
    for at, bit in enumerate(row):
        if bit == "0" and behind_bit(machine, left[len(row) - at - 1], here, "1"):
            turn = at
        here = machine[here][int(bit)]
        if here is None:
            return turn
    return turn


def next_row(machine, room, goal, row):
    """The first row of rows_between, of as many bits, that is greater than any row, None where there is none."""
    # Of greater rows those that leave the row last are the least.
    turn = last_turn(machine, room, goal, row)
    if turn is None:
        return None
    begun = row[:turn] + "1"
    return begun + row_at(machine, walk(machine, room, begun), goal, len(row) - len(begun), 0)
