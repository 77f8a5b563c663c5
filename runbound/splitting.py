"""Writers that are split out of a machine by weights that are enough."""

from runbound.checks import is_listed, is_number, is_within
from runbound.machines import is_machine, powered, reached, walk
from runbound.weights import greatest_within
from runbound.writers import is_writer, look_ahead

# While a writer is being split its rooms are triples (room under it, weight, ways), a way being a pair (row, room).


def lightened(machine, p, q, weights):
    """Weights that are enough, none above these, whose greatest is as little as it goes."""
    # Lighter rooms are split less often, so that fewer blocks must be looked ahead.
    for most in range(1, max(weights)):
        lighter = greatest_within(machine, p, q, [min(weight, most) for weight in weights])
        if any(lighter):
            return lighter
    return weights


def walks_to_weights(machine, q, weights):
    """The list, for each room, of its walks (row, room) of q bits that lead to a room with a weight."""
    return [[(row, end) for row, end in walks if weights[end]] for walks in powered(machine, q)]


def closed_rooms(walks, weights):
    """The rising list of rooms with a weight that all lead to one another, and to no others."""
    leads = [[end for row, end in each] for each in walks]
    # What the rooms reached lead to is reached too, so where they are fewest each of them reaches all.
    return sorted(min([reached(leads, room) for room in range(len(leads)) if weights[room]], key=len))


def unsplit_rooms(machine, q, weights):
    """The list of rooms to begin with, as they lie in the machine."""
    walks = walks_to_weights(machine, q, weights)
    rooms = closed_rooms(walks, weights)
    numbers = {room: at for at, room in enumerate(rooms)}
    return [(room, weights[room], [(row, numbers[end]) for row, end in walks[room]]) for room in rooms]


def rooms_to_split(rooms):
    """The list of the numbers of rooms of the greatest weight with a way to a lesser one, none where all are alike."""
    greatest = max([weight for under, weight, ways in rooms])
    return [
        at
        for at, (under, weight, ways) in enumerate(rooms)
        if weight == greatest and any([rooms[end][1] < greatest for row, end in ways])
    ]


def even_part(rooms, ways, many):
    """A pair: some of the ways whose weights are together a multiple of many, and which multiple it is."""
    # Of many + 1 sums two leave the same rest; a lesser weight among them keeps the multiple below the room's own.
    lightest = sorted([(rooms[end][1], row, end) for row, end in ways])[:many]
    sums = [0]
    for weight, row, end in lightest:
        sums.append(sums[-1] + weight)
    rests = [each % many for each in sums]
    last = min([at for at, rest in enumerate(rests) if rest in rests[:at]])
    first = rests.index(rests[last])
    part = [(row, end) for weight, row, end in lightest[first:last]]
    return (part, (sums[last] - sums[first]) // many)


def split_once(rooms, splitting, many):
    """The rooms with some of them split into two each, to both of which the ways to it lead."""
    split = list(rooms)
    twins = {}
    for at in splitting:
        under, weight, ways = rooms[at]
        part, times = even_part(rooms, ways, many)
        twins[at] = len(split)
        split[at] = (under, times, part)
        split.append((under, weight - times, [way for way in ways if way not in part]))
    return [
        (under, weight, ways + [(row, twins[end]) for row, end in ways if end in twins])
        for under, weight, ways in split
    ]


def doors_among(ways, many):
    """The tuple of so many of the ways, rows that stand several times being taken last."""
    taken = {}
    ranked = []
    for row, end in sorted(ways):
        taken[row] = taken.get(row, 0) + 1
        ranked.append((taken[row], row, end))
    return tuple(sorted([(row, end) for times, row, end in sorted(ranked)[:many]]))


def split_writer(machine, p, q, weights):
    """A triple: a writer of p and q, the list of the rooms under its rooms, and its look ahead."""
    many = 1 << p
    rooms = unsplit_rooms(machine, q, lightened(machine, p, q, weights))
    splitting = rooms_to_split(rooms)
    while splitting:
        rooms = split_once(rooms, splitting, many)
        splitting = rooms_to_split(rooms)
    writer = tuple([doors_among(ways, many) for under, weight, ways in rooms])
    # Rooms split at once ask for one block more at most.
    return (writer, [under for under, weight, ways in rooms], look_ahead(writer, len(writer)))


def lies_over(machine, writer, under):
    """Whether each door's row leads in the machine from the room under its room to that under its end."""
    return all([
        walk(machine, under[at], row) == under[end]
        for at, doors in enumerate(writer)
        for row, end in doors
    ])


def shows_writer(machine, p, q, writer, under, ahead):
    """Whether it is a writer that lies over the machine, and has this look ahead."""
    if not (is_machine(machine) and is_writer(writer, p, q)):
        return False
    if not (is_listed(under) and len(under) == len(writer)):
        return False
    if not all([is_within(room, 0, len(machine) - 1) for room in under]):
        return False
    if not (is_number(ahead) and lies_over(machine, writer, under)):
        return False
    return look_ahead(writer, ahead) == ahead
