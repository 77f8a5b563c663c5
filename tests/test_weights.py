import itertools
import unittest

from asking import CHAIN, CYCLE, FULL, Asking, changed, deep_things, machines_of, rows_of, small_machines
from runbound.bounds import machine_of
from runbound.counting import counts
from runbound.kinds import lessened
from runbound.machines import walk
from runbound.weights import enough, shows_enough, shows_too_little, too_little

# No two ones stand together.
GOLDEN = ((0, 1), (0, None))
BOTH = ((0, 0),)
LONE = ((0, None),)
HALT = ((None, None),)
# From room 0 all rows go on; room 1 leads to it by 0 alone; room 2 leads nowhere.
SLOPE = ((0, 0), (0, None), (None, None))
# Runs of two to eight noughts between single ones: half a bit for each bit, with a weight of 2.
RUNS = lessened(machine_of((2, 8, 1, 1, None)))[0]
SEVEN = lessened(machine_of((1, 7, 1, 2, None)))[0]


def walks_by_one(machine, room, many):
    """The list of the rooms to which all walks of so many bits lead, put together one by one."""
    ends = [walk(machine, room, row) for row in rows_of(many)]
    return [end for end in ends if end is not None]


def enough_by_words(ends, p, weights):
    """Whether weights are enough, ends being the list of the rooms to which each room's walks lead."""
    if any(weight < 0 for weight in weights) or all(weight == 0 for weight in weights):
        return False
    return all(sum(weights[end] for end in ends[room]) >= 2 ** p * own for room, own in enumerate(weights))


def greatest_by_all(machine, p, q, most):
    """The greatest weights that are enough, of all weights up to most; None where there are none."""
    ends = [walks_by_one(machine, room, q) for room in range(len(machine))]
    all_weights = itertools.product(range(most + 1), repeat=len(machine))
    right = [weights for weights in all_weights if enough_by_words(ends, p, weights)]
    return [max(column) for column in zip(*right)] if right else None


def too_little_by_one(machine, p, q, most):
    for m in range(1, most + 1):
        told = [len(walks_by_one(machine, room, q * m)) for room in range(len(machine))]
        if all(count < 2 ** (p * m) for count in told):
            return (m, told)
    return None


class Enough(Asking):
    def test_ordinary(self):
        self.told([1, 1], enough, GOLDEN, 1, 2, 1)
        self.told([7, 7], enough, GOLDEN, 1, 2, 7)
        self.told(None, enough, GOLDEN, 1, 1, 1000)
        self.told([1000], enough, BOTH, 1, 1, 1000)
        self.told([2, 1], enough, GOLDEN, 2, 3, 2)

    def test_without_rooms(self):
        self.told(None, enough, (), 1, 1, 1)
        self.told(None, enough, (), 4, 8, 1000)

    def test_some_rooms_have_none(self):
        self.told([3, 1, 0], enough, SLOPE, 1, 1, 3)
        self.told([1, 0, 0], enough, SLOPE, 1, 1, 1)
        self.told([1000, 500, 0], enough, SLOPE, 1, 1, 1000)

    def test_no_weights_are_enough(self):
        for machine in (HALT, LONE, CHAIN, CYCLE):
            for p, q in ((1, 1), (1, 8), (4, 8)):
                self.told(None, enough, machine, p, q, 1000)
        self.told(None, enough, BOTH, 2, 1, 1000)
        self.told(None, enough, BOTH, 4, 3, 1000)

    def test_most_may_be_too_little(self):
        self.told(None, enough, GOLDEN, 2, 3, 1)
        self.told([2, 1], enough, GOLDEN, 2, 3, 2)
        self.told([3, 2], enough, GOLDEN, 2, 3, 3)
        self.told(None, enough, RUNS, 1, 2, 1)

    def test_both_bits_to_one_room_count_twice(self):
        self.told([4], enough, BOTH, 1, 1, 4)
        self.told([4], enough, BOTH, 3, 3, 4)
        self.told([5, 2], enough, ((0, 0), (None, 0)), 1, 1, 5)

    def test_as_great_as_any_of_small_machines(self):
        for machine in machines_of(2):
            for p, q, most in itertools.product((1, 2), (1, 2, 3), (1, 3, 4)):
                wanted = greatest_by_all(machine, p, q, most)
                self.assertEqual(repr(wanted), repr(enough(machine, p, q, most)), (machine, p, q, most))
        for machine in list(machines_of(3))[::7]:
            for p, q, most in ((1, 1, 3), (1, 2, 2), (2, 3, 3)):
                wanted = greatest_by_all(machine, p, q, most)
                self.assertEqual(repr(wanted), repr(enough(machine, p, q, most)), (machine, p, q, most))

    def test_the_greatest_are_enough_themselves(self):
        for machine in (GOLDEN, SLOPE, RUNS, SEVEN, FULL):
            for p, q, most in itertools.product((1, 2), (1, 2, 3, 4), (1, 2, 5, 40, 1000)):
                weights = enough(machine, p, q, most)
                if weights is not None:
                    self.assertLessEqual(max(weights), most)
                    self.told(True, shows_enough, machine, p, q, weights)

    def test_60_rooms(self):
        self.told([1000] * 60, enough, FULL, 1, 1, 1000)
        self.told([1000] * 60, enough, FULL, 4, 5, 1000)
        self.told(None, enough, FULL, 2, 1, 1000)

    def test_weights_that_fall_by_one_for_a_long_time(self):
        # Each room needs half of both neighbours; the last one leads nowhere, the first one to itself.
        slow = ((0, 0),) + tuple((room - 1, room + 1) for room in range(1, 59)) + ((None, None),)
        weights = enough(slow, 1, 1, 1000)
        self.assertEqual((1000, 0), (weights[0], weights[59]))
        for room in range(1, 59):
            self.assertEqual(weights[room], (weights[room - 1] + weights[room + 1]) // 2)
        # Some weights of 60 rooms in a ring fall a little at each turn.
        ring = tuple(((room + 1) % 60, (room + 1) % 60 if room % 3 else (room + 2) % 60) for room in range(59))
        self.told(None, enough, ring + ((0, None),), 1, 1, 1000)


class ShowsEnough(Asking):
    def test_ordinary(self):
        self.told(True, shows_enough, GOLDEN, 1, 2, [1, 1])
        self.told(True, shows_enough, GOLDEN, 2, 3, [2, 1])
        self.told(True, shows_enough, GOLDEN, 2, 3, (2, 1))
        self.told(False, shows_enough, GOLDEN, 2, 3, [1, 1])
        self.told(False, shows_enough, GOLDEN, 2, 3, [1, 2])
        self.told(False, shows_enough, GOLDEN, 1, 1, [1, 1])
        self.told(False, shows_enough, GOLDEN, 1, 1, [2, 1])

    def test_just_enough_and_one_less(self):
        great = 10 ** 30 - 1
        self.told(True, shows_enough, BOTH, 4, 4, [great])
        self.told(False, shows_enough, BOTH, 4, 3, [great])
        self.told(True, shows_enough, ((0, 0), (0, None)), 1, 1, [great, great // 2])
        self.told(False, shows_enough, ((0, 0), (0, None)), 1, 1, [great, great // 2 + 1])
        self.told(True, shows_enough, ((0, 0), (0, None)), 1, 1, [10 ** 30 - 2, 5 * 10 ** 29 - 1])
        self.told(False, shows_enough, ((0, 0), (0, None)), 1, 1, [10 ** 30 - 3, 5 * 10 ** 29 - 1])

    def test_weights_of_0(self):
        self.told(True, shows_enough, SLOPE, 1, 1, [3, 1, 0])
        self.told(True, shows_enough, SLOPE, 1, 1, [1, 0, 0])
        self.told(False, shows_enough, SLOPE, 1, 1, [0, 0, 0])
        self.told(False, shows_enough, SLOPE, 1, 1, [0, 1, 0])
        self.told(False, shows_enough, SLOPE, 1, 1, [3, 1, 1])
        self.told(False, shows_enough, GOLDEN, 1, 2, [0, 0])

    def test_without_rooms(self):
        self.told(False, shows_enough, (), 1, 1, [])
        self.told(False, shows_enough, (), 1, 1, ())
        self.told(False, shows_enough, (), 1, 1, [1])

    def test_too_few_too_many_and_below_0(self):
        for weights in ([], [1], [1, 1, 1], [1, 1, 0], [-1, 1], [1, -1], [-1, -1], [-2, 0], [0, -1]):
            self.told(False, shows_enough, GOLDEN, 1, 2, weights)

    def test_as_the_words_say_of_small_machines(self):
        for machine in machines_of(2):
            for p, q in itertools.product((1, 2), (1, 2, 3)):
                ends = [walks_by_one(machine, room, q) for room in range(2)]
                for weights in itertools.product(range(-1, 4), repeat=2):
                    wanted = enough_by_words(ends, p, weights)
                    self.assertIs(wanted, shows_enough(machine, p, q, list(weights)))

    def test_other_things(self):
        ends = [walks_by_one(GOLDEN, room, 2) for room in range(2)]
        for weights in ([1, 1], [2, 2]):
            for thing in changed(weights):
                wanted = isinstance(thing, (list, tuple)) and len(thing) == 2
                wanted = wanted and all(type(each) is int for each in thing) and enough_by_words(ends, 1, thing)
                self.told(wanted, shows_enough, GOLDEN, 1, 2, thing)

    def test_other_things_as_machines_and_numbers(self):
        for thing in changed(GOLDEN):
            if repr(thing) != repr(GOLDEN):
                self.assertIn(shows_enough(thing, 1, 2, [1, 1]), (True, False))
        for thing in (None, True, False, "1", "", (1,), [1], -1):
            self.told(False, shows_enough, GOLDEN, thing, 2, [1, 1])
            self.told(False, shows_enough, GOLDEN, 1, thing, [1, 1])

    def test_nested_deep(self):
        for thing in deep_things():
            self.assertIs(False, shows_enough(GOLDEN, 1, 2, thing))
            self.assertIs(False, shows_enough(GOLDEN, 1, 2, [1, thing]))
            self.assertIs(False, shows_enough(GOLDEN, 1, 2, (thing, 1)))
            self.assertIs(False, shows_enough(thing, 1, 2, [1, 1]))

    def test_60_rooms(self):
        self.told(True, shows_enough, FULL, 1, 1, [10 ** 30 - 1] * 60)
        self.told(False, shows_enough, FULL, 1, 1, [10 ** 30 - 1] * 59 + [10 ** 30 - 2])


class TooLittle(Asking):
    def test_ordinary(self):
        self.told((2, [3, 2]), too_little, GOLDEN, 1, 1, 50)
        self.told((2, [55, 34]), too_little, GOLDEN, 3, 4, 50)
        self.told(None, too_little, GOLDEN, 1, 2, 50)
        self.told(None, too_little, BOTH, 1, 1, 50)
        self.told((1, [2]), too_little, BOTH, 2, 1, 50)
        self.told((1, [1]), too_little, LONE, 1, 8, 1)

    def test_the_least_m_and_none_up_to_most(self):
        # Behind the first bit of a run seven more may be like it, but not eight.
        machine = machine_of((1, 8, 1, 8, None))
        for most in (1, 2, 7):
            self.told(None, too_little, machine, 1, 1, most)
        for most in (8, 9, 50):
            self.told((8, [255, 254, 252, 248, 240, 224, 192, 128] * 2), too_little, machine, 1, 1, most)

    def test_without_rooms(self):
        for p, q, most in ((1, 1, 1), (4, 8, 50), (1, 8, 3)):
            self.told((1, []), too_little, (), p, q, most)

    def test_rooms_that_lead_nowhere(self):
        self.told((1, [0]), too_little, HALT, 1, 1, 1)
        self.told((60, [0] * 60), too_little, CHAIN, 1, 1, 60)
        self.told(None, too_little, CHAIN, 1, 1, 50)
        self.told((1, [2 ** 8] * 52 + [0] * 8), too_little, CHAIN, 9, 8, 50)

    def test_just_as_many_is_not_too_little(self):
        # Of 1 bit there are 2, of 2 bits 4, of 3 bits 6.
        machine = ((1, 1), (2, 3), (0, None), (0, 0))
        self.assertEqual([2, 4, 6], [counts(machine, many)[0] for many in (1, 2, 3)])
        wanted = too_little_by_one(machine, 1, 1, 10)
        self.told(wanted, too_little, machine, 1, 1, 10)

    def test_rows_put_together_one_by_one(self):
        for machine in small_machines():
            if len(machine) < 3:
                for p, q in ((1, 1), (1, 2), (2, 2), (2, 3)):
                    wanted = too_little_by_one(machine, p, q, 3) if machine else (1, [])
                    self.assertEqual(repr(wanted), repr(too_little(machine, p, q, 3)))

    def test_400_bits(self):
        self.told(None, too_little, FULL, 1, 1, 50)
        self.told(None, too_little, FULL, 4, 8, 50)
        self.told(None, too_little, GOLDEN, 3, 8, 50)
        # 2 ** (11/16) is below the golden number, 2 ** (5/7) above it.
        for p, q in ((2, 3), (3, 4), (4, 5), (4, 6), (5, 7)):
            told = too_little(GOLDEN, p, q, 50)
            self.assertEqual(p * 100 > q * 69, told is not None, (p, q))

    def test_never_where_weights_are_enough(self):
        for machine in list(machines_of(2)) + [GOLDEN, RUNS, SEVEN, SLOPE]:
            for p, q in ((1, 1), (1, 2), (2, 3), (3, 4), (3, 5)):
                if enough(machine, p, q, 30) is not None:
                    self.assertIsNone(too_little(machine, p, q, 50))

    def test_what_is_told_is_shown(self):
        for machine in [(), GOLDEN, LONE, HALT, RUNS, SEVEN, CHAIN]:
            for p, q in ((1, 1), (2, 3), (3, 4)):
                paper = too_little(machine, p, q, 50)
                if paper is not None:
                    self.told(True, shows_too_little, machine, p, q, *paper)
                    self.told(True, shows_too_little, machine, p, q, paper[0], tuple(paper[1]))


class ShowsTooLittle(Asking):
    def test_ordinary(self):
        self.told(True, shows_too_little, GOLDEN, 1, 1, 4, [8, 5])
        self.told(True, shows_too_little, GOLDEN, 1, 1, 4, (8, 5))
        self.told(True, shows_too_little, GOLDEN, 1, 1, 5, [13, 8])
        self.told(False, shows_too_little, GOLDEN, 1, 1, 4, [8, 6])
        self.told(False, shows_too_little, GOLDEN, 1, 1, 4, [7, 5])
        self.told(False, shows_too_little, GOLDEN, 1, 1, 4, [5, 8])
        self.told(False, shows_too_little, GOLDEN, 1, 1, 5, [8, 5])

    def test_counts_that_are_right_but_not_less(self):
        self.told(False, shows_too_little, GOLDEN, 1, 1, 1, [2, 1])
        self.told(False, shows_too_little, GOLDEN, 2, 3, 1, [5, 3])
        self.told(False, shows_too_little, GOLDEN, 2, 3, 2, [21, 13])
        self.told(False, shows_too_little, BOTH, 1, 1, 7, [128])
        self.told(True, shows_too_little, ((1, 1), (0, None)), 1, 1, 2, [2, 2])

    def test_without_rooms(self):
        self.told(True, shows_too_little, (), 1, 1, 1, [])
        self.told(True, shows_too_little, (), 4, 8, 400, ())
        self.told(False, shows_too_little, (), 1, 1, 0, [])
        self.told(False, shows_too_little, (), 1, 1, 401, [])
        self.told(False, shows_too_little, (), 1, 1, 1, [0])
        self.told(False, shows_too_little, (), 1, 1, 1, None)

    def test_m_from_1_to_400(self):
        self.told(True, shows_too_little, LONE, 1, 1, 1, [1])
        self.told(True, shows_too_little, LONE, 1, 1, 400, [1])
        self.told(True, shows_too_little, LONE, 1, 8, 400, [1])
        for m in (0, -1, -400, 401, 402, 10 ** 40, -(10 ** 40)):
            self.told(False, shows_too_little, LONE, 1, 1, m, [1])
        self.told(True, shows_too_little, FULL, 2, 1, 400, [2 ** 400] * 60)
        self.told(False, shows_too_little, FULL, 1, 1, 400, [2 ** 400] * 60)

    def test_as_the_words_say_of_small_machines(self):
        for machine in machines_of(2):
            for p, q, m in itertools.product((1, 2), (1, 2), (1, 2, 3)):
                told = counts(machine, q * m)
                wanted = all(count < 2 ** (p * m) for count in told)
                self.assertIs(wanted, shows_too_little(machine, p, q, m, told))
                self.assertIs(False, shows_too_little(machine, p, q, m, [told[0], told[1] + 1]))
                self.assertIs(False, shows_too_little(machine, p, q, m, [told[0] - 1, told[1]]))

    def test_true_and_false_are_no_numbers(self):
        for m, told in ((True, [1]), (1, [True]), (True, [True]), (1, [False]), (False, [1])):
            self.told(False, shows_too_little, LONE, 1, 1, m, told)
        self.told(False, shows_too_little, HALT, 1, 1, 1, [False])
        self.told(True, shows_too_little, HALT, 1, 1, 1, [0])

    def test_other_things(self):
        for thing in changed([8, 5]):
            self.told(thing == (8, 5), shows_too_little, GOLDEN, 1, 1, 4, thing)
        for thing in changed(4):
            self.told(False, shows_too_little, GOLDEN, 1, 1, thing, [8, 5])
        for thing in changed(GOLDEN):
            self.assertIn(shows_too_little(thing, 1, 1, 4, [8, 5]), (True, False))
        for thing in (None, True, False, "1", "", (1,), [1], -1):
            self.told(False, shows_too_little, GOLDEN, thing, 1, 4, [8, 5])
            self.told(False, shows_too_little, GOLDEN, 1, thing, 4, [8, 5])

    def test_nested_deep(self):
        for thing in deep_things():
            self.assertIs(False, shows_too_little(GOLDEN, 1, 1, 4, thing))
            self.assertIs(False, shows_too_little(GOLDEN, 1, 1, 4, [8, thing]))
            self.assertIs(False, shows_too_little(GOLDEN, 1, 1, 4, (thing, 5)))
            self.assertIs(False, shows_too_little(GOLDEN, 1, 1, thing, [8, 5]))
            self.assertIs(False, shows_too_little(thing, 1, 1, 4, [8, 5]))


class ByTurns(Asking):
    def test_two_machines_by_turns(self):
        for _ in range(3):
            self.told([2, 1], enough, GOLDEN, 2, 3, 2)
            self.told([3, 1, 0], enough, SLOPE, 1, 1, 3)
            self.told((2, [3, 2]), too_little, GOLDEN, 1, 1, 50)
            self.told((1, [1]), too_little, LONE, 1, 1, 50)

    def test_what_was_told_may_be_handed_in_again(self):
        weights = enough(GOLDEN, 2, 3, 2)
        weights.append(weights.pop())
        self.told(True, shows_enough, GOLDEN, 2, 3, weights)
        weights[0] = 0
        self.told([2, 1], enough, GOLDEN, 2, 3, 2)


if __name__ == "__main__":
    unittest.main()
