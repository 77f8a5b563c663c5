"""Tables: rounds from a room to itself, of one number of bits, that stand for bits."""

from runbound.checks import are_numbers, is_number, is_within
from runbound.counting import number_left, row_left, ways
from runbound.errors import BadBlock
from runbound.machines import is_machine, walk
from runbound.rows import bits_by, blocks_of, number_by, whole_blocks


def round_counts(machine, room, most):
    """The list of how many rounds of 1, 2 .. most bits there are from a room."""
    return [left[room] for left in ways(machine, room, most)[1:]]


def is_power_at_least(count, p):
    """Whether a count is 2 ** p at least."""
    return count.bit_length() > p


def greatest_power(count):
    """The greatest p such that a count is 2 ** p at least, None where there is none."""
    return count.bit_length() - 1 if count else None


def bits_for(machine, room, many):
    """The greatest p such that there are 2 ** p rounds of so many bits, None where there is none."""
    return greatest_power(ways(machine, room, many)[many][room])


def least_many(machine, room, p, most):
    """The least number of bits up to most of which there are 2 ** p rounds, and the counts of rounds up to it."""
    counts = round_counts(machine, room, most)
    for at, count in enumerate(counts):
        if is_power_at_least(count, p):
            return (at + 1, counts[:at + 1])
    return None


def shows_least_many(machine, room, p, many, counts):
    """Whether counts are those of the rounds of 1, 2 .. many bits, only the last one 2 ** p at least."""
    if not (is_machine(machine) and is_within(room, 0, len(machine) - 1) and is_number(p)):
        return False
    if not (is_number(many) and many >= 1 and are_numbers(counts, many)):
        return False
    if list(counts) != round_counts(machine, room, many) or not is_power_at_least(counts[-1], p):
        return False
    return not any([is_power_at_least(count, p) for count in counts[:-1]])


def table_written(machine, room, many, bits):
    """The rounds of so many bits that stand for the bits, part by part."""
    left = ways(machine, room, many)
    parts = whole_blocks(bits, greatest_power(left[many][room]))
    return "".join([row_left(machine, left, room, number_by(part)) for part in parts])


def round_number(machine, left, room, block):
    """A block's number among the rounds that ways are left for, None where it is none of them."""
    if len(block) != len(left) - 1 or walk(machine, room, block) != room:
        return None
    return number_left(machine, left, room, block)


def table_read(machine, room, many, row):
    """The bits of which table_written makes the row."""
    left = ways(machine, room, many)
    p = greatest_power(left[many][room])
    parts = []
    for at, block in enumerate(blocks_of(row, many)):
        number = round_number(machine, left, room, block)
        # The rounds beyond 2 ** p stand for nothing.
        if number is None or is_power_at_least(number, p):
            raise BadBlock(at)
        parts.append(bits_by(number, p))
    return "".join(parts)
