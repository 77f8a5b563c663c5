"""Windows of blocks through which what a writer wrote is read, wherever it began."""

from runbound.errors import NoWindow
from runbound.rows import bits_by, exchanged, whole_blocks
from runbound.writers import going_on, leads_to, pairs_behind, room_pairs, steps_of


def forks_of(writer):
    """The dict of each pair's pairs behind doors of one row whose numbers are unlike."""
    return {pair: pairs_behind(writer, pair, True) for pair in room_pairs(writer)}


def pairs_led_to(steps, most):
    """The list, for each number of doors up to most, of a dict of the pairs to which ways with the same rows lead."""
    told = [{pair: True for pair in steps}]
    for step in range(most):
        told.append({end: True for pair in told[-1] for end in steps[pair]})
    return told


def pairs_led_on(steps, most):
    """The list, for each number of doors up to most, of a dict of the pairs from which ways have the same rows."""
    told = [{pair: True for pair in steps}]
    for step in range(most):
        told.append(going_on(steps, told[-1]))
    return told


def tells_doors(forks, led_to, led_on):
    """Whether no two ways with the same rows fork from a pair led to, to a pair that is led on from."""
    for pair in led_to:
        if leads_to(forks[pair], led_on):
            return False
    return True


def window_for(writer, most):
    """The pair (back, ahead) of the least sum up to most whose window tells each door, None where there is none."""
    forks = forks_of(writer)
    steps = steps_of(writer)
    led_to = pairs_led_to(steps, most)
    led_on = pairs_led_on(steps, most)
    for both in range(most + 1):
        for back in range(both + 1):
            if tells_doors(forks, led_to[back], led_on[both - back]):
                return (back, both - back)
    return None


def one_door_farther(writer, p, ways, telling):
    """The dict of each (row, bits) of ways, one door farther, and the rooms come to; telling, of that door's bits."""
    farther = {}
    for (row, bits), rooms in ways.items():
        for room in rooms:
            for number, (block, end) in enumerate(writer[room]):
                ends = farther.setdefault((row + block, bits_by(number, p) if telling else bits), {})
                ends[end] = True
    return farther


def reader_of(writer, p, back, ahead):
    """The rising list of the pairs (row, bits) of all windows, and the bits of the door number back."""
    steps = steps_of(writer)
    # Asked first by pairs of rooms: the rows of a window that tells nothing may be far too many.
    if not tells_doors(forks_of(writer), pairs_led_to(steps, back)[back], pairs_led_on(steps, ahead)[ahead]):
        raise NoWindow("through this window a row has several readings")
    ways = {("", ""): {room: True for room in range(len(writer))}}
    for at in range(back + 1 + ahead):
        ways = one_door_farther(writer, p, ways, at == back)
    return sorted(ways)


def read_by(pairs, p, q, back, ahead, row):
    """The bits of each window of a row by the pairs, noughts where they have none."""
    known = {window: bits for window, bits in pairs}
    blocks = whole_blocks(row, q)
    width = back + 1 + ahead
    windows = ["".join(blocks[at:at + width]) for at in range(len(blocks) - width + 1)]
    return "".join([known.get(window, "0" * p) for window in windows])


def spoilt(pairs, p, q, back, ahead, row, place):
    """How many bits of what is read become others where the bit at a place is exchanged."""
    wrong = row[:place] + exchanged(row[place]) + row[place + 1:]
    right_bits = read_by(pairs, p, q, back, ahead, row)
    wrong_bits = read_by(pairs, p, q, back, ahead, wrong)
    return len([bit for bit, other in zip(right_bits, wrong_bits) if bit != other])
