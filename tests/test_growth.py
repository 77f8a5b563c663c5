import itertools
import unittest
from fractions import Fraction

from asking import CHAIN, FULL, Asking, deep_things, machines_of, small_machines
from runbound.bounds import machine_of
from runbound.counting import counts
from runbound.growth import growth, shows_growth
from runbound.kinds import lessened
from runbound.machines import is_machine, is_ring

# No two ones stand together.
GOLDEN = ((0, 1), (0, None))
BOTH = ((0, 0),)
LONE = ((0, None),)
# Both bits of room 0 lead to 1, which leads back by 1 alone.
DOUBLE = ((1, 1), (None, 0))
TWELVE = tuple(((room + 1) % 12, (room * 5 + 3) % 12 if room % 3 else None) for room in range(12))
WRONG = [
    None, True, False, 0, 1, -1, 10 ** 40, "", "1", "11", "(1, 1)", (), [], (1,), [1], (1, 1, 1), [1, 1], [2, 1],
    (None, None), (1, None), (None, 1), (True, 1), (1, True), (False, 1), (True, True), ("1", "1"), (1, "1"), ("", 1),
    ((1, 1),), [(1, 1)], (1, (1,)), ([1], 1), (-1, 1), (1, -1), (-1, -1), (1, 0), (0, 0), (2, 2), (2, 4), (0, 2),
    (6, 3), (10 ** 40, 10 ** 39), "12", ["1", "1"], (-2, 1), (3, -2), (1, False),
]


def ways(machine, weights):
    return [sum(weights[lead] for lead in room if lead is not None) for room in machine]


def growth_by_fractions(machine, steps):
    weights = [1] * len(machine)
    for _ in range(steps):
        weights = [own + way for own, way in zip(weights, ways(machine, weights))]
    told = [Fraction(way, own) for way, own in zip(ways(machine, weights), weights)]
    low, high = min(told), max(told)
    return ((low.numerator, low.denominator), (high.numerator, high.denominator), weights)


class Growth(Asking):
    def test_ordinary(self):
        self.told(((1, 1), (2, 1), [1, 1]), growth, GOLDEN, 0)
        self.told(((3, 2), (5, 3), [3, 2]), growth, GOLDEN, 1)
        self.told(((8, 5), (13, 8), [8, 5]), growth, GOLDEN, 2)

    def test_both_bits_to_one_room_count_twice(self):
        self.told(((2, 1), (2, 1), [1]), growth, BOTH, 0)
        self.told(((2, 1), (2, 1), [3]), growth, BOTH, 1)
        self.told(((1, 1), (2, 1), [1, 1]), growth, DOUBLE, 0)
        self.told(((4, 3), (3, 2), [3, 2]), growth, DOUBLE, 1)

    def test_one_way_alone(self):
        self.told(((1, 1), (1, 1), [1]), growth, LONE, 0)
        self.told(((1, 1), (1, 1), [2 ** 60]), growth, LONE, 60)
        cycle = tuple(((room + 1) % 12, None) for room in range(12))
        self.told(((1, 1), (1, 1), [2 ** 60] * 12), growth, cycle, 60)

    def test_60_steps(self):
        self.told(((2, 1), (2, 1), [3 ** 60]), growth, BOTH, 60)
        for machine in (GOLDEN, DOUBLE, TWELVE):
            self.assertTrue(is_ring(machine))
            self.told(growth_by_fractions(machine, 60), growth, machine, 60)

    def test_all_small_rings(self):
        for machine in small_machines():
            if is_ring(machine):
                for steps in (0, 1, 2, 5):
                    wanted = growth_by_fractions(machine, steps)
                    self.assertEqual(repr(wanted), repr(growth(machine, steps)))

    def test_12_rooms_step_by_step(self):
        for steps in range(12):
            self.told(growth_by_fractions(TWELVE, steps), growth, TWELVE, steps)

    def test_the_fractions_draw_near(self):
        low, high, weights = growth(GOLDEN, 60)
        self.assertLess(Fraction(*high) - Fraction(*low), Fraction(1, 10 ** 20))
        self.assertTrue(Fraction(1618, 1000) < Fraction(*low) <= Fraction(*high) < Fraction(1619, 1000))

    def test_what_is_told_is_shown(self):
        for machine in (GOLDEN, BOTH, LONE, DOUBLE, TWELVE, lessened(machine_of((1, 2, 1, 2, 3)))[0]):
            for steps in (0, 1, 7, 60):
                self.told(True, shows_growth, machine, *growth(machine, steps))


class ShowsGrowth(Asking):
    def test_ordinary(self):
        self.told(True, shows_growth, GOLDEN, (3, 2), (5, 3), [3, 2])
        self.told(True, shows_growth, GOLDEN, (3, 2), (5, 3), (3, 2))
        self.told(True, shows_growth, GOLDEN, (0, 1), (2, 1), [3, 2])
        self.told(True, shows_growth, GOLDEN, (0, 1), (10 ** 40, 1), [1, 1])
        self.told(True, shows_growth, BOTH, (2, 1), (2, 1), [7])

    def test_just_beyond(self):
        self.told(False, shows_growth, GOLDEN, (1501, 1000), (5, 3), [3, 2])
        self.told(False, shows_growth, GOLDEN, (3, 2), (1663, 998), [3, 2])
        self.told(False, shows_growth, GOLDEN, (3, 2), (3, 2), [3, 2])
        self.told(False, shows_growth, GOLDEN, (5, 3), (5, 3), [3, 2])
        self.told(False, shows_growth, GOLDEN, (5, 3), (3, 2), [3, 2])
        self.told(False, shows_growth, BOTH, (0, 1), (1, 1), [7])
        self.told(False, shows_growth, BOTH, (3, 1), (4, 1), [7])
        great = 10 ** 29
        self.told(True, shows_growth, GOLDEN, (great + 1, great), (great, 1), [great, 1])
        self.told(False, shows_growth, GOLDEN, (great + 1, great), (great - 1, 1), [great, 1])
        self.told(False, shows_growth, GOLDEN, (great + 1, great - 1), (great, 1), [great, 1])

    def test_both_bits_to_one_room_count_twice(self):
        self.told(True, shows_growth, DOUBLE, (4, 3), (3, 2), [3, 2])
        self.told(False, shows_growth, DOUBLE, (2, 3), (4, 3), [3, 2])
        self.told(False, shows_growth, BOTH, (1, 1), (1, 1), [1])

    def test_rooms_that_lead_nowhere(self):
        self.told(True, shows_growth, ((None, None),), (0, 1), (0, 1), [5])
        self.told(True, shows_growth, ((None, None),), (0, 1), (1, 1), [5])
        self.told(False, shows_growth, ((None, None),), (1, 10 ** 40), (1, 1), [5])
        self.told(True, shows_growth, CHAIN, (0, 1), (2, 1), [1] * 60)
        self.told(False, shows_growth, CHAIN, (0, 1), (1, 1), [1] * 60)

    def test_without_rooms(self):
        self.told(True, shows_growth, (), (0, 1), (0, 1), [])
        self.told(True, shows_growth, (), (1, 2), (5, 3), ())
        # Nothing is held against them, so low may be above high.
        self.told(True, shows_growth, (), (5, 3), (1, 2), [])
        self.told(False, shows_growth, (), (0, 1), (0, 1), [1])
        self.told(False, shows_growth, (), (0, 2), (0, 1), [])
        self.told(False, shows_growth, (), (0, 1), (2, 2), [])

    def test_fractions_not_in_their_least_terms(self):
        for low, high in (((6, 4), (5, 3)), ((3, 2), (10, 6)), ((0, 2), (5, 3)), ((3, 2), (4, 2)), ((0, 7), (5, 3))):
            self.told(False, shows_growth, GOLDEN, low, high, [3, 2])
        self.told(False, shows_growth, BOTH, (2, 1), (4, 2), [1])
        self.told(False, shows_growth, BOTH, (4, 2), (2, 1), [1])
        self.told(False, shows_growth, BOTH, (2, 1), (2 * 10 ** 29, 10 ** 29), [1])

    def test_a_top_below_0_or_a_below_of_0(self):
        for wrong in ((-1, 1), (-3, 2), (1, 0), (0, 0), (3, 0), (1, -1), (-3, -2), (-5, -3)):
            self.told(False, shows_growth, GOLDEN, wrong, (5, 3), [3, 2])
            self.told(False, shows_growth, GOLDEN, (0, 1), wrong, [3, 2])

    def test_weights_below_1_or_too_few_or_too_many(self):
        for weights in ([], [3], [3, 2, 1], [0, 2], [3, 0], [-3, 2], [3, -2], [-3, -2], [0, 0]):
            self.told(False, shows_growth, GOLDEN, (0, 1), (10, 1), weights)
        self.told(True, shows_growth, GOLDEN, (0, 1), (10, 1), [1, 1])

    def test_other_things_as_fractions(self):
        for thing in WRONG:
            self.told(False, shows_growth, GOLDEN, thing, (5, 3), [3, 2])
            self.told(False, shows_growth, GOLDEN, (0, 1), thing, [3, 2])
            self.told(False, shows_growth, (), thing, (5, 3), [])
            self.told(False, shows_growth, (), (0, 1), thing, [])

    def test_other_things_as_weights(self):
        right = ([1, 1], [2, 1], (2, 2), (2, 4), (6, 3), (10 ** 40, 10 ** 39))
        for thing in WRONG:
            if repr(thing) not in [repr(each) for each in right]:
                self.told(False, shows_growth, GOLDEN, (0, 1), (10 ** 50, 1), thing)
            if repr(thing) not in ("1", repr(10 ** 40)):
                self.told(False, shows_growth, GOLDEN, (0, 1), (10 ** 50, 1), [thing, 1])
                self.told(False, shows_growth, GOLDEN, (0, 1), (10 ** 50, 1), [1, thing])
                self.told(False, shows_growth, GOLDEN, (0, 1), (10 ** 50, 1), (1, thing))

    def test_other_things_as_machines(self):
        for thing in WRONG:
            if not is_machine(thing):
                for weights in ([], [1], [1, 1]):
                    self.told(False, shows_growth, thing, (0, 1), (10, 1), weights)

    def test_nested_deep(self):
        for thing in deep_things():
            self.assertIs(False, shows_growth(GOLDEN, thing, (5, 3), [3, 2]))
            self.assertIs(False, shows_growth(GOLDEN, (3, 2), thing, [3, 2]))
            self.assertIs(False, shows_growth(GOLDEN, (3, thing), (5, 3), [3, 2]))
            self.assertIs(False, shows_growth(GOLDEN, (3, 2), (thing, 3), [3, 2]))
            self.assertIs(False, shows_growth(GOLDEN, (3, 2), (5, 3), thing))
            self.assertIs(False, shows_growth(GOLDEN, (3, 2), (5, 3), [3, thing]))
            self.assertIs(False, shows_growth(thing, (3, 2), (5, 3), [3, 2]))

    def test_as_the_words_say_of_small_machines(self):
        fractions = [(0, 1), (1, 2), (1, 1), (3, 2), (2, 1), (3, 1), (2, 3)]
        for machine in machines_of(2):
            for weights in itertools.product((1, 2, 3), repeat=2):
                told = [Fraction(way, own) for way, own in zip(ways(machine, weights), weights)]
                for low, high in itertools.product(fractions, repeat=2):
                    wanted = all(Fraction(*low) <= each <= Fraction(*high) for each in told)
                    self.assertIs(wanted, shows_growth(machine, low, high, list(weights)))

    def test_a_paper_bounds_the_counts(self):
        for machine in (GOLDEN, DOUBLE, TWELVE):
            low, high, weights = growth(machine, 9)
            for many in (0, 1, 10, 50):
                for count in counts(machine, many):
                    self.assertLessEqual(count, Fraction(*high) ** many * Fraction(max(weights), min(weights)))
                    self.assertGreaterEqual(count, Fraction(*low) ** many * Fraction(min(weights), max(weights)))

    def test_60_rooms(self):
        self.told(True, shows_growth, FULL, (2, 1), (2, 1), [10 ** 29] * 60)
        self.told(False, shows_growth, FULL, (2, 1), (2, 1), [10 ** 29] * 59 + [10 ** 29 + 1])


class ByTurns(Asking):
    def test_two_machines_by_turns(self):
        for _ in range(3):
            self.told(((3, 2), (5, 3), [3, 2]), growth, GOLDEN, 1)
            self.told(((4, 3), (3, 2), [3, 2]), growth, DOUBLE, 1)
            self.told(True, shows_growth, GOLDEN, (3, 2), (5, 3), [3, 2])
            self.told(False, shows_growth, DOUBLE, (3, 2), (5, 3), [3, 2])


if __name__ == "__main__":
    unittest.main()
