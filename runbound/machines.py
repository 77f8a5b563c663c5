"""Machines: tuples of rooms, each a pair of the rooms to which 0 and 1 lead."""

from runbound.checks import is_pair, is_within


def is_lead(thing, many):
    """Whether a bit may lead to it in a machine of so many rooms."""
    return thing is None or is_within(thing, 0, many - 1)


def is_room(thing, many):
    """Whether it is a room of a machine of so many rooms."""
    return is_pair(thing) and is_lead(thing[0], many) and is_lead(thing[1], many)


def is_machine(thing):
    """Whether it is a machine."""
    if not isinstance(thing, tuple):
        return False
    return all([is_room(room, len(thing)) for room in thing])


def walk(machine, room, row):
    """The room to which a row leads from a room, None where some bit leads nowhere."""
    here = room
    for bit in row:
        if here is None:
            return None
        here = machine[here][int(bit)]
    return here


def starts(machine, row):
    """The rising list of the rooms from which a row can be walked."""
    return [room for room in range(len(machine)) if walk(machine, room, row) is not None]


def rooms_behind(machine, rooms, bit):
    """The rising list of the rooms to which a bit leads from some of these."""
    leads = [machine[room][int(bit)] for room in rooms]
    return sorted({lead for lead in leads if lead is not None})


def lasting(machine, rooms):
    """Those of these rooms that lead to one of them and to which one of them leads."""
    inside = set(rooms)
    led_to = {lead for room in rooms for lead in machine[room]}
    return [
        room
        for room in rooms
        if room in led_to and (machine[room][0] in inside or machine[room][1] in inside)
    ]


def part_of(machine, numbers):
    """The machine of these rooms, in this order, bits to others leading nowhere."""
    # None is no room's number, so a bit that leads nowhere finds None here too.
    anew = {room: at for at, room in enumerate(numbers)}
    return tuple([(anew.get(machine[room][0]), anew.get(machine[room][1])) for room in numbers])


def trimmed(machine):
    """A pair: the machine of the rooms on endless walks, and their rising list."""
    numbers = list(range(len(machine)))
    fewer = lasting(machine, numbers)
    # Taking a room away may leave others without a way in or out.
    while len(fewer) < len(numbers):
        numbers = fewer
        fewer = lasting(machine, numbers)
    return (part_of(machine, numbers), numbers)


def reached(machine, room):
    """The dict whose keys are the rooms to which one bit or more lead from a room."""
    found = {}
    waiting = [room]
    while waiting:
        here = waiting.pop()
        for lead in machine[here]:
            if lead is not None and lead not in found:
                found[lead] = True
                waiting.append(lead)
    return found


def rings(machine):
    """The list of the greatest rising lists of rooms that all lead to one another."""
    rooms = list(range(len(machine)))
    beyond = [reached(machine, room) for room in rooms]
    told = []
    for room in rooms:
        ring = [other for other in rooms if other in beyond[room] and room in beyond[other]]
        # A ring is found from each of its rooms; only its first one tells it.
        if ring and ring[0] == room:
            told.append(ring)
    return told


def is_ring(machine):
    """Whether it is a machine whose rooms, one at least, all lead to one another."""
    return is_machine(machine) and rings(machine) == [list(range(len(machine)))]


def walks_from(machine, room, many):
    """The rising list of pairs (row, room) of the walks of so many bits from a room."""
    walks = [("", room)]
    # Rows that rise still do when each is lengthened by 0 and then by 1.
    for step in range(many):
        walks = [
            (row + bit, machine[end][int(bit)])
            for row, end in walks
            for bit in "01"
            if machine[end][int(bit)] is not None
        ]
    return walks


def powered(machine, many):
    """The list, for each room, of the pairs (row, room) of its walks of so many bits."""
    return [walks_from(machine, room, many) for room in range(len(machine))]
