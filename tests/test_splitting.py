import itertools
import random
import unittest

from asking import CHAIN, Asking, changed, deep_things, machines_of, rows_of
from runbound.bounds import keeps, machine_of
from runbound.kinds import lessened
from runbound.machines import powered, walk
from runbound.splitting import even_part, shows_writer, split_writer
from runbound.weights import enough, shows_enough
from runbound.writers import is_writer, look_ahead, surely, written

# No two ones stand together.
GOLDEN = ((0, 1), (0, None))
BOTH = ((0, 0),)
# From room 0 all rows go on; room 1 leads to it by 0 alone; room 2 leads nowhere.
SLOPE = ((0, 0), (0, None), (None, None))
# Between two ones stand one to seven noughts, or one or two.
SPARSE = lessened(machine_of((1, 7, 1, 1, None)))[0]
SHORT = lessened(machine_of((1, 2, 1, 1, None)))[0]
LEVELS = lessened(machine_of((1, 3, 1, 3, 3)))[0]
# Two rings that don't lead to one another, and a room that leads to both.
RINGS = ((1, 3), (1, 2), (1, None), (3, 4), (3, None))
TWELVE = tuple(((room + 1) % 12, (room * 5 + 3) % 12 if room % 3 else None) for room in range(12))
QUESTIONS = [
    (BOTH, 1, 1, [1]), (BOTH, 1, 1, [20]), (BOTH, 4, 4, [3]), (BOTH, 2, 5, [1]),
    (GOLDEN, 1, 2, [1, 1]), (GOLDEN, 2, 3, [2, 1]), (GOLDEN, 2, 3, [3, 2]), (GOLDEN, 2, 3, [12, 8]),
    (GOLDEN, 3, 5, [5, 3]), (GOLDEN, 4, 6, [2, 1]), (GOLDEN, 4, 8, [9, 6]),
    (SLOPE, 1, 1, [1, 0, 0]), (SLOPE, 1, 1, [3, 1, 0]), (SLOPE, 1, 1, [19, 1, 0]), (SLOPE, 1, 1, [13, 6, 0]),
]


def questions():
    """Machines, p, q and weights that are enough and at most 20 together."""
    yield from QUESTIONS
    for machine in (SPARSE, SHORT, LEVELS, RINGS, TWELVE):
        for p, q, most in itertools.product((1, 2, 3, 4), range(1, 9), range(1, 8)):
            if max(map(len, powered(machine, q))) <= 40:
                weights = enough(machine, p, q, most)
                if weights is not None and sum(weights) <= 20:
                    yield machine, p, q, weights


def some_machines(many):
    """So many machines of up to 12 rooms, the same ones each time, with p, q and weights that are enough."""
    dice = random.Random(8)
    told = []
    while len(told) < many:
        rooms = dice.randint(2, 12)
        leads = [None] + list(range(rooms)) * dice.choice((1, 3))
        machine = tuple((dice.choice(leads), dice.choice(leads)) for _ in range(rooms))
        p, q = dice.randint(1, 4), dice.randint(1, 8)
        if max(map(len, powered(machine, q))) <= 40:
            weights = next(filter(None, (enough(machine, p, q, most) for most in range(1, 12))), None)
            # Weights of 1 alone need no room to be split.
            if weights is not None and 1 < max(weights) and sum(weights) <= 20:
                told.append((machine, p, q, weights))
    return told


def shows_by_words(machine, p, q, writer, under, ahead):
    """Whether shows_writer is to say so, of things of any kind."""
    if not is_writer(writer, p, q) or not isinstance(under, (list, tuple)) or len(under) != len(writer):
        return False
    if not all(type(room) is int and 0 <= room < len(machine) for room in under):
        return False
    for room, doors in zip(under, writer):
        for row, end in doors:
            if walk(machine, room, row) != under[end]:
                return False
    return type(ahead) is int and look_ahead(writer, ahead) == ahead


class SplitWriter(Asking):
    def shown(self, machine, p, q, weights):
        """Split a writer, see it shown, of the kinds that are told, and told the same again."""
        writer, under, ahead = told = split_writer(machine, p, q, weights)
        self.assertIs(tuple, type(told))
        self.assertIs(list, type(under))
        self.assertIs(int, type(ahead))
        self.assertIs(True, is_writer(writer, p, q))
        self.assertEqual(len(writer), len(under))
        for room, doors in zip(under, writer):
            for row, end in doors:
                self.assertEqual(under[end], walk(machine, room, row))
        self.assertEqual(ahead, look_ahead(writer, ahead))
        self.assertEqual(ahead, look_ahead(writer, 400))
        self.assertIs(True, shows_writer(machine, p, q, writer, under, ahead))
        self.told(told, split_writer, machine, p, q, weights)
        return told

    def test_ordinary(self):
        for machine, p, q, weights in QUESTIONS:
            self.assertTrue(shows_enough(machine, p, q, weights), (machine, p, q, weights))
            self.shown(machine, p, q, weights)
            self.shown(machine, p, q, tuple(weights))

    def test_bounds_levels_rings_and_12_rooms(self):
        asked = 0
        for machine, p, q, weights in questions():
            self.shown(machine, p, q, weights)
            asked += 1
        self.assertGreater(asked, 100)

    def test_no_more_rooms_than_weights(self):
        for machine, p, q, weights in questions():
            writer, under, ahead = split_writer(machine, p, q, weights)
            self.assertLessEqual(len(writer), sum(weights))
            for room in under:
                self.assertGreater(weights[room], 0)

    def test_weights_of_0_for_some_rooms(self):
        for weights in ([1, 0, 0], [2, 1, 0], [2, 0, 0]):
            writer, under, ahead = self.shown(SLOPE, 1, 1, weights)
            self.assertNotIn(2, under)
        for weights in ([0, 0, 0, 2, 1], [0, 2, 1, 0, 0], [3, 5, 3, 5, 3]):
            self.assertTrue(shows_enough(RINGS, 2, 3, weights))
            self.shown(RINGS, 2, 3, weights)

    def test_a_room_far_greater_than_others(self):
        self.shown(SLOPE, 1, 1, [19, 1, 0])
        far = ((2, 4), (None, 3), (5, 1), (0, 3), (None, 2), (None, None))
        self.assertTrue(shows_enough(far, 4, 7, [3, 4, 3, 7, 2, 0]))
        self.shown(far, 4, 7, [3, 4, 3, 7, 2, 0])
        # Each room but the first has a single way, so that its weight is half of the next one's.
        lone = ((0, 0), (2, None), (3, None), (0, None))
        for weights in ([16, 0, 0, 4], [10, 1, 2, 5], [8, 1, 2, 4], [1, 0, 0, 0]):
            self.assertTrue(shows_enough(lone, 1, 1, weights))
            self.shown(lone, 1, 1, weights)

    def test_all_machines_of_two_rooms(self):
        for machine in machines_of(2):
            for p, q, most in ((1, 1, 3), (1, 2, 3), (2, 3, 5), (3, 4, 8), (3, 5, 9)):
                weights = enough(machine, p, q, most)
                if weights is not None:
                    told = split_writer(machine, p, q, weights)
                    self.assertIs(True, shows_writer(machine, p, q, *told), (machine, p, q, weights))

    def test_all_weights_of_small_machines(self):
        for machine in (GOLDEN, SLOPE, SHORT):
            for weights in itertools.product(range(7), repeat=len(machine)):
                for p, q in ((1, 1), (1, 2), (2, 3), (2, 4)):
                    if shows_enough(machine, p, q, weights) and sum(weights) <= 20:
                        told = split_writer(machine, p, q, weights)
                        self.assertIs(True, shows_writer(machine, p, q, *told), (machine, p, q, weights))

    def test_some_machines_whose_rooms_are_split(self):
        for machine, p, q, weights in some_machines(60):
            writer, under, ahead = self.shown(machine, p, q, weights)
            self.assertLessEqual(len(writer), sum(weights))

    def test_no_more_is_split_than_need_be(self):
        # Weights that are many times others which are enough ask for no longer look ahead.
        for weights in ([2, 1], [4, 2], [12, 8], [13, 7]):
            self.assertTrue(shows_enough(GOLDEN, 2, 3, weights))
            writer, under, ahead = split_writer(GOLDEN, 2, 3, weights)
            self.assertEqual((3, 1), (len(writer), ahead))

    def test_what_is_written_can_be_walked_and_is_surely_read(self):
        bits = "011010011100010111011000100101" * 4
        for machine, p, q, weights in questions():
            writer, under, ahead = split_writer(machine, p, q, weights)
            for room in range(len(writer)):
                mine = bits[room:room + 12 * p]
                row, end = written(writer, p, room, mine)
                self.assertEqual(under[end], walk(machine, under[room], row))
                sure = surely(writer, p, q, room, row)
                self.assertTrue(mine.startswith(sure))
                self.assertGreaterEqual(len(sure), len(mine) - p * ahead)

    def test_all_bits_of_a_writer_that_looks_ahead(self):
        looked = []
        for machine, p, q, weights in ((GOLDEN, 2, 3, [2, 1]), (SHORT, 2, 5, [4, 2, 3]), (LEVELS, 2, 3, [1, 2, 2, 1])):
            writer, under, ahead = split_writer(machine, p, q, weights)
            looked.append(ahead)
            for room, bits in itertools.product(range(len(writer)), rows_of(3 * p) + rows_of(4 * p)):
                row, end = written(writer, p, room, bits)
                sure = surely(writer, p, q, room, row)
                self.assertTrue(bits.startswith(sure) and len(sure) >= len(bits) - p * ahead)
        self.assertGreater(min(looked), 0)

    def test_nothing_handed_in_is_kept(self):
        weights = [12, 8]
        writer, under, ahead = split_writer(GOLDEN, 2, 3, weights)
        before = repr((writer, under, ahead))
        weights[0] = 0
        under.clear()
        self.assertEqual(before, repr(split_writer(GOLDEN, 2, 3, [12, 8])))


class EvenPart(unittest.TestCase):
    def test_both_parts_have_a_weight_of_their_own(self):
        dice = random.Random(3)
        for many, greatest, ways in itertools.product((2, 4, 8, 16), range(2, 8), range(30)):
            weights = [dice.randint(1, greatest - 1)] + [greatest] * many
            weights += [dice.randint(1, greatest) for _ in range(ways)]
            rooms = [(0, weight, []) for weight in weights]
            # The least weight stands last of all rows, so that it is not met by chance.
            led = [(format(len(rooms) - end, "08b"), end) for end in range(len(rooms))][::-1]
            part, times = even_part(rooms, led, many)
            self.assertEqual(times * many, sum(weights[end] for row, end in part))
            self.assertTrue(0 < times < greatest)
            self.assertEqual(len(part), len(set(part) & set(led)))


class ShowsWriter(Asking):
    WRITER = ((("00", 0), ("01", 1)), (("00", 0), ("01", 1)))

    def test_ordinary(self):
        self.told(True, shows_writer, GOLDEN, 1, 2, self.WRITER, [0, 1], 0)
        self.told(True, shows_writer, GOLDEN, 1, 2, self.WRITER, (0, 1), 0)
        self.told(True, shows_writer, BOTH, 1, 1, ((("0", 0), ("1", 0)),), [0], 0)

    def test_rows_that_lead_elsewhere(self):
        self.told(False, shows_writer, GOLDEN, 1, 2, self.WRITER, [1, 0], 0)
        self.told(False, shows_writer, GOLDEN, 1, 2, self.WRITER, [0, 0], 0)
        self.told(False, shows_writer, GOLDEN, 1, 2, ((("00", 0), ("11", 0)),), [0], 0)
        self.told(False, shows_writer, GOLDEN, 1, 2, ((("00", 0), ("01", 0)),), [0], 0)
        self.told(True, shows_writer, GOLDEN, 1, 2, ((("00", 0), ("10", 0)),), [0], 0)

    def test_another_look_ahead(self):
        later = ((("00", 0), ("00", 1)), (("01", 0), ("10", 0)))
        machine = ((1, 1), (0, 0))
        self.assertEqual(None, look_ahead(later, 0))
        self.told(True, shows_writer, machine, 1, 2, later, [0, 0], look_ahead(later, 9))
        for ahead in (-1, 0, 2, 3, 10 ** 40, -(10 ** 40), None, True, False, "1", (1,), [1]):
            self.told(False, shows_writer, machine, 1, 2, later, [0, 0], ahead)
        for ahead in (-1, 1, 2, 10 ** 40, None, True, False, "0", (), [], (0,)):
            self.told(False, shows_writer, GOLDEN, 1, 2, self.WRITER, [0, 1], ahead)

    def test_a_writer_that_never_tells(self):
        never = ((("0", 0), ("0", 0)),)
        for ahead in (0, 1, 2, 24, 10 ** 40, None, False):
            self.told(False, shows_writer, BOTH, 1, 1, never, [0], ahead)

    def test_rooms_under_it_that_are_none(self):
        for under in ([], [0], [0, 1, 0], [0, 2], [-1, 1], [-2, -1], [0, None], [False, 1], [0, True], [0, "1"], "01",
                      None, 0, {}.get(0), [[0], [1]], [(0,), (1,)], (0, 1, 1), 10 ** 40, [0, 10 ** 40]):
            self.told(False, shows_writer, GOLDEN, 1, 2, self.WRITER, under, 0)

    def test_a_room_to_which_no_door_leads(self):
        alone = ((("0", 0), ("1", 0)), (("0", 0), ("1", 0)))
        self.told(True, shows_writer, BOTH, 1, 1, alone, [0, 0], 0)
        for room in (-1, 1, None, True, False, "0"):
            self.told(False, shows_writer, BOTH, 1, 1, alone, [0, room], 0)

    def test_without_rooms(self):
        self.told(False, shows_writer, (), 1, 1, ((("0", 0), ("1", 0)),), [0], 0)
        self.told(False, shows_writer, BOTH, 1, 1, (), [], 0)
        self.told(False, shows_writer, (), 1, 1, (), [], 0)

    def test_other_things(self):
        told = split_writer(GOLDEN, 2, 3, [2, 1])
        for p, q, (writer, under, ahead) in ((1, 2, (self.WRITER, [0, 1], 0)), (2, 3, told)):
            self.told(True, shows_writer, GOLDEN, p, q, writer, under, ahead)
            for thing in changed(writer):
                wanted = shows_by_words(GOLDEN, p, q, thing, under, ahead)
                self.assertIs(wanted, shows_writer(GOLDEN, p, q, thing, under, ahead))
            for thing in changed(under):
                wanted = shows_by_words(GOLDEN, p, q, writer, thing, ahead)
                self.told(wanted, shows_writer, GOLDEN, p, q, writer, thing, ahead)
            for thing in changed(ahead):
                self.told(False, shows_writer, GOLDEN, p, q, writer, under, thing)
            for thing in changed(GOLDEN):
                self.assertIn(shows_writer(thing, p, q, writer, under, ahead), (True, False))
        for thing in (None, True, False, "1", "", (1,), [1], -1, 0, 3):
            self.told(False, shows_writer, GOLDEN, thing, 2, self.WRITER, [0, 1], 0)
            self.told(False, shows_writer, GOLDEN, 1, thing, self.WRITER, [0, 1], 0)

    def test_nested_deep(self):
        for thing in deep_things():
            self.assertIs(False, shows_writer(GOLDEN, 1, 2, thing, [0, 1], 0))
            self.assertIs(False, shows_writer(GOLDEN, 1, 2, (self.WRITER[0], thing), [0, 1], 0))
            self.assertIs(False, shows_writer(GOLDEN, 1, 2, self.WRITER, thing, 0))
            self.assertIs(False, shows_writer(GOLDEN, 1, 2, self.WRITER, [0, thing], 0))
            self.assertIs(False, shows_writer(GOLDEN, 1, 2, self.WRITER, [0, 1], thing))
            self.assertIs(False, shows_writer(thing, 1, 2, self.WRITER, [0, 1], 0))

    def test_24_rooms(self):
        ring = tuple(((room + 1) % 12, (room + 1) % 12) for room in range(12))
        writer = tuple((("0", (room + 1) % 24), ("1", (room + 13) % 24)) for room in range(24))
        self.told(True, shows_writer, ring, 1, 1, writer, list(range(12)) * 2, 0)
        self.told(False, shows_writer, ring, 1, 1, writer, list(range(11)) * 2 + [0, 1], 0)
        self.told(False, shows_writer, CHAIN, 1, 1, writer, list(range(12)) * 2, 0)


class ByTurns(Asking):
    def test_two_machines_by_turns(self):
        golden = split_writer(GOLDEN, 2, 3, [2, 1])
        sparse = split_writer(SPARSE, 2, 3, [3, 3, 3, 2, 2, 2, 1, 2])
        for _ in range(3):
            self.told(golden, split_writer, GOLDEN, 2, 3, [2, 1])
            self.told(sparse, split_writer, SPARSE, 2, 3, [3, 3, 3, 2, 2, 2, 1, 2])

    def test_the_bounds_are_kept(self):
        for bounds, p, q in (((1, 7, 1, 1, None), 2, 3), ((1, 3, 1, 3, 3), 2, 3), ((1, 2, 1, 1, None), 3, 8)):
            machine, numbers = lessened(machine_of(bounds))
            writer, under, ahead = split_writer(machine, p, q, enough(machine, p, q, 3))
            for room, bits in itertools.product(range(len(writer)), rows_of(2 * p)):
                self.assertTrue(keeps(bounds, written(writer, p, room, bits)[0]))


if __name__ == "__main__":
    unittest.main()
