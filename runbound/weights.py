"""Which weights of rooms are enough for p bits in blocks of q, and papers of counts that say there are none."""

from runbound.checks import are_numbers, are_sizes, is_within
from runbound.counting import way_sums
from runbound.machines import is_machine, powered

LAST_PAPER = 400


def walk_sums(machine, numbers, many):
    """The list, for each room, of the numbers of the rooms to which its walks of so many bits lead, together."""
    sums = list(numbers)
    for step in range(many):
        sums = way_sums(machine, sums)
    return sums


def walks_to(machine, q):
    """The list, for each room, of the rooms from which the walks of q bits that lead to it come."""
    sources = [[] for room in machine]
    for room, walks in enumerate(powered(machine, q)):
        for row, end in walks:
            sources[end].append(room)
    return sources


def greatest_within(machine, p, q, limits):
    """The greatest weights that are enough for p and q, none above its limit; all 0 where there are none."""
    weights = list(limits)
    sums = walk_sums(machine, weights, q)
    sources = walks_to(machine, q)
    # No weights that are enough lie above these at any time, so those that are left are the greatest.
    waiting = list(range(len(machine)))
    while waiting:
        room = waiting.pop()
        lost = weights[room] - (sums[room] >> p)
        if lost > 0:
            weights[room] -= lost
            for source in sources[room]:
                sums[source] -= lost
            waiting.extend(sources[room])
    return weights


def enough(machine, p, q, most):
    """The greatest weights up to most that are enough for p and q, None where there are none."""
    weights = greatest_within(machine, p, q, [most for room in machine])
    return weights if any(weights) else None


def shows_enough(machine, p, q, weights):
    """Whether weights is a list of numbers that are enough for p and q."""
    if not (is_machine(machine) and are_sizes(p, q) and are_numbers(weights, len(machine))):
        return False
    if not any(weights) or min(weights) < 0:
        return False
    return all([way >> p >= own for own, way in zip(weights, walk_sums(machine, weights, q))])


def are_below(counts, bits):
    """Whether all of these counts are less than the number of all rows of so many bits."""
    return all([count.bit_length() <= bits for count in counts])


def too_little(machine, p, q, most):
    """The least m up to most such that all counts for q * m bits are less than 2 ** (p * m), and these counts."""
    counts = [1 for room in machine]
    for m in range(1, most + 1):
        counts = walk_sums(machine, counts, q)
        if are_below(counts, p * m):
            return (m, counts)
    return None


def shows_too_little(machine, p, q, m, counts):
    """Whether counts are just those for q * m bits, and each of them less than 2 ** (p * m)."""
    if not (is_machine(machine) and are_sizes(p, q)):
        return False
    if not (is_within(m, 1, LAST_PAPER) and are_numbers(counts, len(machine))):
        return False
    return list(counts) == walk_sums(machine, [1 for room in machine], q * m) and are_below(counts, p * m)
