"""Bits stuffed into a row, such that no run is longer than told."""

from runbound.errors import NoRow
from runbound.rows import exchanged


def stuffed(row, most):
    """The row with the other bit put behind each most bits that are alike, put ones counted too."""
    told = []
    run = 0
    for bit in row:
        run = run + 1 if told and told[-1] == bit else 1
        told.append(bit)
        if run == most:
            told.append(exchanged(bit))
            run = 1
    return "".join(told)


def unstuffed(row, most):
    """The row of which stuffed makes this one."""
    bits = []
    run = 0
    for at, bit in enumerate(row):
        # Behind so many like bits stands one that was put.
        if run < most:
            bits.append(bit)
        run = run + 1 if at > 0 and row[at - 1] == bit else 1
    told = "".join(bits)
    if stuffed(told, most) != row:
        raise NoRow("no row is stuffed so")
    return told
