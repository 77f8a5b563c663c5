import itertools
import unittest

from asking import CHAIN, CYCLE, FULL, Asking, deep_things, machines_of, rows_to, small_machines
from runbound.bounds import machine_of
from runbound.kinds import apart, kinds, lessened, shows_alike
from runbound.machines import is_machine, walk

# Rooms 0 and 2 are alike, and so are 1 and 3.
TWICE = ((1, 2), (0, None), (3, 0), (2, None))
# Two rooms for what TWICE has four.
ONCE = ((1, 0), (0, None))
HALT = ((None, None),)
BOTH = ((0, 0),)
WRONG = [
    None, True, False, 0, 1, -1, 10 ** 40, "", "0", "01", "(0, 0)", (), [], (0,), [0], (0, 0, 0), [0, 0], (None, None),
    (0, None), (None, 0), (True, 0), (0, True), (False, False), ("0", "0"), (0, "0"), ("", 0), ((0, 0),), [(0, 0)],
    ((0, 0), (0, 0)), (0, (0,)), ([0], 0), (-1, 0), (0, -1), (4, 0), (0, 4), (10 ** 40, 0), "00", ["0", "0"],
]


def walkable(machine, room, most):
    """The rows of up to so many bits that can be walked from a room."""
    return [row for row in rows_to(most) if walk(machine, room, row) is not None]


def first_apart(mine, others):
    """The first row of just one of two lists of rows."""
    unlike = set(mine) ^ set(others)
    return min(unlike, key=lambda row: (len(row), row)) if unlike else None


def right_pairs(one, a, other, b, pairs):
    """Whether the pairs show it, by the words of the document, bit by bit."""
    if (a, b) not in pairs:
        return False
    for x, y in pairs:
        for bit in (0, 1):
            leads = (one[x][bit], other[y][bit])
            if (leads[0] is None) != (leads[1] is None):
                return False
            if leads[0] is not None and leads not in pairs:
                return False
    return True


class Apart(Asking):
    def test_ordinary(self):
        self.told(None, apart, TWICE, 0, TWICE, 2)
        self.told(None, apart, TWICE, 1, TWICE, 3)
        self.told("1", apart, TWICE, 0, TWICE, 1)
        self.told(None, apart, TWICE, 2, ONCE, 0)
        self.told("1", apart, ONCE, 0, TWICE, 3)
        self.told("01", apart, ONCE, 0, BOTH, 0)

    def test_a_room_and_itself(self):
        for machine in (TWICE, ONCE, HALT, BOTH, FULL, CHAIN, CYCLE):
            for room in range(len(machine)):
                self.told(None, apart, machine, room, machine, room)

    def test_rooms_that_lead_nowhere(self):
        self.told(None, apart, HALT, 0, ((0, 0), (None, None)), 1)
        self.told("0", apart, HALT, 0, BOTH, 0)
        self.told("0", apart, BOTH, 0, HALT, 0)
        self.told("1", apart, HALT, 0, ((None, 0),), 0)

    def test_the_first_as_rows_rise(self):
        # 1 comes ahead of 00, and 0 ahead of 1.
        self.told("1", apart, ((1, None), (None, None)), 0, ((0, 0),), 0)
        self.told("0", apart, ((None, 0),), 0, ((0, None),), 0)
        # 01 and 10 both part them; 01 comes first.
        self.told("01", apart, ((1, 2), (0, None), (None, 0)), 0, ((1, 1), (0, 0)), 0)
        # 11 comes ahead of 000.
        one = ((1, 2), (3, 3), (3, None), (None, 3))
        other = ((1, 2), (3, 3), (3, 3), (3, 3))
        self.told("11", apart, one, 0, other, 0)

    def test_all_pairs_of_small_machines(self):
        machines = [machine for many in (1, 2) for machine in machines_of(many)]
        walks = {
            (machine, room): walkable(machine, room, 4) for machine in machines for room in range(len(machine))
        }
        for (one, a), (other, b) in itertools.product(walks, repeat=2):
            wanted = first_apart(walks[one, a], walks[other, b])
            self.assertEqual(repr(wanted), repr(apart(one, a, other, b)))

    def test_all_rooms_of_machines_of_three(self):
        for machine in machines_of(3):
            walks = [walkable(machine, room, 3) for room in range(3)]
            for a, b in itertools.combinations(range(3), 2):
                wanted = first_apart(walks[a], walks[b])
                self.assertEqual(repr(wanted), repr(apart(machine, a, machine, b)))
                self.assertEqual(repr(wanted), repr(apart(machine, b, machine, a)))

    def test_60_rooms(self):
        self.told("0" * 59, apart, CHAIN, 0, CHAIN, 1)
        self.told("0", apart, CHAIN, 58, CHAIN, 59)
        self.told("0" * 15, apart, CHAIN, 30, CHAIN, 45)
        self.told(None, apart, FULL, 0, FULL, 31)
        self.told(None, apart, CYCLE, 7, CYCLE, 50)

    def test_two_machines_of_many_pairs(self):
        # Cycles of 59 and 60 rooms: each room of one meets each of the other.
        other = tuple(((room + 1) % 59, None) for room in range(59))
        self.told(None, apart, CYCLE, 0, other, 0)
        self.told("0" * 58 + "1", apart, CYCLE, 0, other[:58] + ((0, 0),), 0)
        # A one from the last room of each: from 0 they differ as the shorter comes there.
        longer = CYCLE[:59] + ((0, 0),)
        self.told("0" * 58 + "1", apart, longer, 0, other[:58] + ((0, 0),), 0)
        # From one ahead of both last rooms they part only a round later.
        self.told("0" * 59 + "1", apart, longer, 59, other[:58] + ((0, 0),), 58)

    def test_two_machines_by_turns(self):
        for _ in range(3):
            self.told("1", apart, TWICE, 0, TWICE, 1)
            self.told(None, apart, BOTH, 0, FULL, 1)
            self.told("01", apart, ONCE, 0, FULL, 1)
            self.told([[0, 2], [1, 3]], kinds, TWICE)
            self.told([[0], [1]], kinds, ONCE)
            self.told((ONCE, [0, 1, 0, 1]), lessened, TWICE)
            self.told((BOTH, [0]), lessened, BOTH)


class ShowsAlike(Asking):
    def test_ordinary(self):
        self.told(True, shows_alike, TWICE, 0, TWICE, 2, [(0, 2), (1, 3), (2, 0), (3, 1)])
        self.told(True, shows_alike, TWICE, 2, ONCE, 0, [(2, 0), (3, 1), (0, 0), (1, 1)])
        self.told(True, shows_alike, ONCE, 0, TWICE, 0, [(0, 0), (1, 1), (0, 2), (1, 3)])
        self.told(True, shows_alike, HALT, 0, HALT, 0, [(0, 0)])
        self.told(True, shows_alike, BOTH, 0, BOTH, 0, [(0, 0)])

    def test_a_tuple_of_pairs_and_pairs_twice(self):
        self.told(True, shows_alike, TWICE, 0, TWICE, 2, ((0, 2), (1, 3), (2, 0), (3, 1)))
        self.told(True, shows_alike, BOTH, 0, BOTH, 0, [(0, 0), (0, 0)])
        self.told(True, shows_alike, BOTH, 0, BOTH, 0, ((0, 0),))

    def test_more_pairs_than_needed(self):
        every = [(a, a) for a in range(4)] + [(0, 2), (2, 0), (1, 3), (3, 1)]
        for a, b in every:
            self.told(True, shows_alike, TWICE, a, TWICE, b, every)
        self.told(False, shows_alike, TWICE, 0, TWICE, 0, every + [(0, 1)])

    def test_the_pair_itself_is_missing(self):
        self.told(False, shows_alike, TWICE, 0, TWICE, 2, [(0, 0), (1, 1), (2, 2), (3, 3)])
        self.told(False, shows_alike, BOTH, 0, BOTH, 0, [])
        self.told(False, shows_alike, BOTH, 0, BOTH, 0, ())
        self.told(False, shows_alike, TWICE, 0, ONCE, 1, [(1, 0), (0, 1)])

    def test_a_pair_that_is_led_to_is_missing(self):
        pairs = [(0, 2), (1, 3), (2, 0), (3, 1)]
        for left_out in pairs:
            self.told(False, shows_alike, TWICE, 0, TWICE, 2, [pair for pair in pairs if pair != left_out])

    def test_a_bit_that_leads_from_just_one(self):
        self.told(False, shows_alike, HALT, 0, BOTH, 0, [(0, 0)])
        self.told(False, shows_alike, BOTH, 0, HALT, 0, [(0, 0)])
        self.told(False, shows_alike, ONCE, 0, ONCE, 1, [(a, b) for a in range(2) for b in range(2)])

    def test_turned_pairs(self):
        self.told(False, shows_alike, TWICE, 2, ONCE, 0, [(0, 2), (1, 3), (0, 0), (1, 1)])

    def test_all_pairs_of_small_machines(self):
        rooms = list(itertools.product(range(2), repeat=2))
        chosen = [list(pairs) for many in range(5) for pairs in itertools.combinations(rooms, many)]
        machines = list(machines_of(2))
        for one, other in list(zip(machines, machines)) + list(zip(machines, machines[7:] + machines[:7])):
            for pairs, (a, b) in itertools.product(chosen, rooms):
                wanted = right_pairs(one, a, other, b, pairs)
                self.assertIs(wanted, shows_alike(one, a, other, b, pairs))
                if wanted:
                    self.assertIsNone(apart(one, a, other, b))

    def test_all_pairs_that_are_alike_show_it(self):
        for machine in (TWICE, ONCE, HALT, BOTH, CYCLE, machine_of((1, 2, 1, 2, 3))):
            rooms = list(itertools.product(range(len(machine)), repeat=2))
            alike = [(a, b) for a, b in rooms if apart(machine, a, machine, b) is None]
            for a, b in alike[:5] + alike[-5:]:
                self.told(True, shows_alike, machine, a, machine, b, alike)

    def test_60_rooms(self):
        every = list(itertools.product(range(60), repeat=2))
        self.told(True, shows_alike, FULL, 3, FULL, 58, every)
        self.told(False, shows_alike, FULL, 3, FULL, 58, every[:-1])
        self.told(True, shows_alike, CHAIN, 3, CHAIN, 3, [(room, room) for room in range(60)])
        self.told(False, shows_alike, CHAIN, 3, CHAIN, 4, every)

    def test_other_things_as_pairs(self):
        for thing in WRONG:
            if thing not in ([(0, 0)], ((0, 0),), ((0, 0), (0, 0))):
                self.told(False, shows_alike, BOTH, 0, BOTH, 0, thing)

    def test_other_things_as_one_pair(self):
        right = [(0, 2), (1, 3), (2, 0), (3, 1)]
        for thing in WRONG:
            for at in (0, 2, 4):
                self.told(False, shows_alike, TWICE, 0, TWICE, 2, right[:at] + [thing] + right[at:])
            self.told(False, shows_alike, BOTH, 0, BOTH, 0, [thing])
            self.told(False, shows_alike, BOTH, 0, BOTH, 0, (thing,))
            self.told(False, shows_alike, BOTH, 0, BOTH, 0, [(0, 0), thing])

    def test_true_and_false_are_no_rooms(self):
        self.told(False, shows_alike, ONCE, 0, ONCE, 0, [(0, 0), (1, True)])
        self.told(False, shows_alike, ONCE, 0, ONCE, 0, [(False, 0), (1, 1)])
        self.told(False, shows_alike, ONCE, 0, ONCE, 0, [(0, 0), (1, 1), (True, True)])

    def test_rooms_beyond_the_last_or_below_the_first(self):
        for wrong in ((2, 0), (0, 2), (-1, 0), (0, -1), (-2, -2), (10 ** 40, 0)):
            self.told(False, shows_alike, ONCE, 0, ONCE, 0, [(0, 0), (1, 1), wrong])
        # Three rooms of one machine, two of the other: each is held against its own.
        three = ((1, 2), (0, None), (1, 0))
        self.told(True, shows_alike, three, 2, ONCE, 0, [(0, 0), (1, 1), (2, 0)])
        self.told(False, shows_alike, ONCE, 0, three, 2, [(0, 0), (1, 1), (2, 0)])

    def test_other_things_as_rooms_and_machines(self):
        for thing in WRONG:
            if repr(thing) != "0":
                self.told(False, shows_alike, BOTH, thing, BOTH, 0, [(0, 0)])
                self.told(False, shows_alike, BOTH, 0, BOTH, thing, [(0, 0)])
            if not is_machine(thing) or not thing:
                self.told(False, shows_alike, thing, 0, BOTH, 0, [(0, 0)])
                self.told(False, shows_alike, BOTH, 0, thing, 0, [(0, 0)])

    def test_nested_deep(self):
        for thing in deep_things():
            self.assertIs(False, shows_alike(BOTH, 0, BOTH, 0, thing))
            self.assertIs(False, shows_alike(BOTH, 0, BOTH, 0, [thing]))
            self.assertIs(False, shows_alike(BOTH, 0, BOTH, 0, [(0, 0), thing]))
            self.assertIs(False, shows_alike(BOTH, 0, BOTH, 0, [(0, 0), (0, thing)]))
            self.assertIs(False, shows_alike(BOTH, 0, BOTH, 0, [(thing, 0), (0, 0)]))
            self.assertIs(False, shows_alike(BOTH, thing, BOTH, 0, [(0, 0)]))
            self.assertIs(False, shows_alike(BOTH, 0, thing, 0, [(0, 0)]))


def kinds_by_rows(machine):
    """The kinds, by the rows of fewer bits than there are rooms, which are enough."""
    walks = [walkable(machine, room, len(machine)) for room in range(len(machine))]
    groups = [[other for other in range(len(machine)) if walks[other] == mine] for mine in walks]
    return [group for room, group in enumerate(groups) if group[0] == room]


class Kinds(Asking):
    def test_ordinary(self):
        self.told([[0, 2], [1, 3]], kinds, TWICE)
        self.told([[0], [1]], kinds, ONCE)
        self.told([[0]], kinds, HALT)

    def test_without_rooms(self):
        self.told([], kinds, ())

    def test_by_their_first_rooms(self):
        self.told([[0, 3], [1], [2, 4]], kinds, ((None, None), (0, 0), (0, None), (None, None), (3, None)))
        self.told([[0], [1, 2]], kinds, ((1, 2), (None, 1), (None, 2)))

    def test_told_apart_late(self):
        self.told([[room] for room in range(60)], kinds, CHAIN)
        self.told([list(range(60))], kinds, CYCLE)
        self.told([list(range(60))], kinds, FULL)
        marked = CYCLE[:59] + ((0, 0),)
        self.told([[room] for room in range(60)], kinds, marked)
        halves = tuple(((room + 1) % 60, 0 if room % 30 == 29 else None) for room in range(60))
        self.told([[room, room + 30] for room in range(30)], kinds, halves)

    def test_all_small_machines(self):
        for machine in small_machines():
            self.assertEqual(repr(kinds_by_rows(machine)), repr(kinds(machine)))

    def test_as_apart_tells(self):
        for bounds in ((1, 2, 1, 3, 3), (2, 3, 2, 3, None), (1, 1, 1, 2, 3)):
            machine = machine_of(bounds)
            number = {room: at for at, group in enumerate(kinds(machine)) for room in group}
            for a, b in itertools.product(range(len(machine)), repeat=2):
                self.assertIs(number[a] == number[b], apart(machine, a, machine, b) is None)


class Lessened(Asking):
    def test_ordinary(self):
        self.told((ONCE, [0, 1, 0, 1]), lessened, TWICE)
        self.told((ONCE, [0, 1]), lessened, ONCE)
        self.told((BOTH, [0] * 60), lessened, FULL)
        self.told((((0, None),), [0] * 60), lessened, CYCLE)

    def test_nothing_to_lessen(self):
        self.told((CHAIN, list(range(60))), lessened, CHAIN)
        self.told((HALT, [0]), lessened, HALT)

    def test_without_rooms(self):
        self.told(((), []), lessened, ())

    def test_kinds_are_numbered_by_their_first_rooms(self):
        machine = ((None, None), (0, 0), (0, None), (None, None), (3, None))
        self.told((((None, None), (0, 0), (0, None)), [0, 1, 2, 0, 2]), lessened, machine)

    def test_all_small_machines(self):
        for machine in small_machines():
            groups = kinds_by_rows(machine)
            numbers = [at for room in range(len(machine)) for at, group in enumerate(groups) if room in group]
            less = tuple(
                tuple(None if lead is None else numbers[lead] for lead in machine[group[0]]) for group in groups
            )
            self.assertEqual(repr((less, numbers)), repr(lessened(machine)))

    def test_rows_are_as_they_were(self):
        for bounds in ((1, 2, 1, 3, 3), (1, 3, 1, 3, None), (2, 2, 2, 2, 3)):
            machine = machine_of(bounds)
            less, numbers = lessened(machine)
            self.assertIs(True, is_machine(less))
            for room in range(len(machine)):
                self.assertIsNone(apart(machine, room, less, numbers[room]))
            self.assertEqual((less, list(range(len(less)))), lessened(less))


if __name__ == "__main__":
    unittest.main()
