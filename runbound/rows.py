"""Rows of bits: their runs, the sums of their signs, their blocks, and the numbers they are read as."""

from runbound.errors import BadBits


def runs(row):
    """The list of the runs (bit, many) of a row, each as long as it goes."""
    told = []
    start = 0
    for at in range(1, len(row) + 1):
        if at == len(row) or row[at] != row[start]:
            told.append((int(row[start]), at - start))
            start = at
    return told


def row_by(runs):
    """The row that has these runs one behind the other."""
    return "".join([str(bit) * many for bit, many in runs])


def exchanged(row):
    """The row with each bit made the other one."""
    return "".join(["1" if bit == "0" else "0" for bit in row])


def sum_of(row):
    """The ones of a row less its noughts."""
    return row.count("1") - row.count("0")


def sums(row):
    """The list of the sums of a row's beginnings, from the empty one to itself."""
    level = 0
    told = [level]
    for bit in row:
        level += 1 if bit == "1" else -1
        told.append(level)
    return told


def spread_of(row):
    """The greatest sum of a row's beginnings less the least."""
    levels = sums(row)
    return max(levels) - min(levels)


def blocks_of(row, many):
    """The list of a row's blocks of so many bits, a shorter one at its end where they don't come out even."""
    return [row[at:at + many] for at in range(0, len(row), many)]


def whole_blocks(row, many):
    """The list of a row's blocks of so many bits, none of them shorter."""
    if len(row) % many:
        raise BadBits("the number of bits is no multiple of a block's")
    return blocks_of(row, many)


def number_by(bits):
    """The number that bits are read as, the highest one first."""
    number = 0
    for bit in bits:
        number = number * 2 + int(bit)
    return number


def bits_by(number, many):
    """The row of so many bits that is read as a number."""
    return "".join([str(number >> at & 1) for at in reversed(range(many))])
