"""Between which fractions the number of a machine's rows grows, bit by bit."""

from runbound.checks import are_numbers, is_number, is_pair
from runbound.counting import way_sums
from runbound.machines import is_machine


def common_divisor(one, other):
    """The greatest number that divides both."""
    while other:
        one, other = other, one % other
    return one


def is_fraction(thing):
    """Whether it is a fraction in its least terms."""
    if not (is_pair(thing) and is_number(thing[0]) and is_number(thing[1])):
        return False
    return thing[0] >= 0 and thing[1] >= 1 and common_divisor(thing[0], thing[1]) == 1


def fraction_of(top, below):
    """The fraction of two numbers, in its least terms."""
    divisor = common_divisor(top, below)
    return (top // divisor, below // divisor)


def is_at_most(one, other):
    """Whether one fraction, in whatever terms, is the other one at most."""
    return one[0] * other[1] <= other[0] * one[1]


def growth(machine, steps):
    """A triple: the least and the greatest fraction of way sum by weight after so many steps, and the weights."""
    weights = [1 for room in machine]
    for step in range(steps):
        weights = [own + way for own, way in zip(weights, way_sums(machine, weights))]
    fractions = [fraction_of(way, own) for own, way in zip(weights, way_sums(machine, weights))]
    low = high = fractions[0]
    for fraction in fractions:
        low = fraction if is_at_most(fraction, low) else low
        high = fraction if is_at_most(high, fraction) else high
    return (low, high, weights)


def are_weights(thing, many):
    """Whether it is a list of so many numbers from 1 on."""
    return are_numbers(thing, many) and all([each >= 1 for each in thing])


def shows_growth(machine, low, high, weights):
    """Whether each room's way sum by its weight is from the fraction low to the fraction high."""
    if not (is_machine(machine) and is_fraction(low) and is_fraction(high)):
        return False
    if not are_weights(weights, len(machine)):
        return False
    fractions = list(zip(way_sums(machine, weights), weights))
    return all([is_at_most(low, each) and is_at_most(each, high) for each in fractions])
