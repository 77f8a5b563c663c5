"""Rows whose ones and noughts are as many, and rows whose sums are kept near nought."""

from runbound.errors import NoNumber, NoRow
from runbound.rows import exchanged, sum_of, sums, whole_blocks


def turned(row, many):
    """The row with its first many bits exchanged."""
    return exchanged(row[:many]) + row[many:]


def turning(row):
    """The least number from 0 such that a row of an even number of bits, turned by so many, is balanced."""
    whole = sum_of(row)
    # Exchanging a beginning takes its sum away twice.
    return [many for many, level in enumerate(sums(row)) if 2 * level == whole][0]


def balanced_count(many):
    """How many balanced rows of so many bits there are."""
    if many % 2:
        return 0
    half = many // 2
    count = 1
    for ones in range(1, half + 1):
        count = count * (half + ones) // ones
    return count


def count_by_nought(count, rest, ones):
    """Of the count of rows of rest bits with so many ones, how many begin with a nought."""
    return count * (rest - ones) // rest


def balanced_at(many, number):
    """The balanced row of so many bits with that many ahead of it."""
    count = balanced_count(many)
    if not 0 <= number < count:
        raise NoNumber("no balanced row has this number")
    bits = []
    ones = many // 2
    ahead = number
    for rest in reversed(range(1, many + 1)):
        by_nought = count_by_nought(count, rest, ones)
        if ahead < by_nought:
            bits.append("0")
            count = by_nought
        else:
            bits.append("1")
            count -= by_nought
            ahead -= by_nought
            ones -= 1
    return "".join(bits)


def balanced_number(row):
    """How many balanced rows of as many bits are ahead of a row."""
    if sum_of(row) != 0:
        raise NoRow("the row isn't balanced")
    count = balanced_count(len(row))
    ones = len(row) // 2
    ahead = 0
    for at, bit in enumerate(row):
        by_nought = count_by_nought(count, len(row) - at, ones)
        if bit == "0":
            count = by_nought
        else:
            count -= by_nought
            ahead += by_nought
            ones -= 1
    return ahead


def head_for(many):
    """The least even number of bits of which there are as many balanced rows."""
    bits = 0
    while balanced_count(bits) < many:
        bits += 2
    return bits


def balance_written(row):
    """The row turned such that it is balanced, behind a balanced head that tells by how many."""
    many = turning(row)
    return balanced_at(head_for(len(row)), many) + turned(row, many)


def balance_read(row, many):
    """The row of so many bits of which balance_written makes this one."""
    head = head_for(many)
    if len(row) != head + many:
        raise NoRow("the row has another number of bits")
    told = turned(row[head:], balanced_number(row[:head]))
    # A head may tell of a greater number than the least one that balances the row.
    if balance_written(told) != row:
        raise NoRow("the head tells another number than the least one")
    return told


def flags_written(row, many):
    """Each block behind a 0, or exchanged behind a 1, such that the sum of all stays nearer to 0."""
    told = []
    level = 0
    for block in whole_blocks(row, many):
        plain = "0" + block
        rise = sum_of(plain)
        if abs(level + rise) <= abs(level - rise):
            told.append(plain)
            level += rise
        else:
            told.append(exchanged(plain))
            level -= rise
    return "".join(told)


def flags_read(row, many):
    """The row of which flags_written may be this one."""
    blocks = whole_blocks(row, many + 1)
    return "".join([block[1:] if block[0] == "0" else exchanged(block[1:]) for block in blocks])
