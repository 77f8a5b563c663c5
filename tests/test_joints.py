import functools
import itertools
import unittest

from asking import CHAIN, CYCLE, FULL, Asking, machines_of, rows_of, rows_to, small_machines
from runbound.bounds import keeps, machine_of
from runbound.joints import filled, fillings, first_joint, joint, joint_between
from runbound.machines import starts, walk

GOLDEN = ((0, 1), (0, None))
STAIR = ((0, 1), (None, 1))
HALT = ((None, None),)
KEPT_BY_NONE = [(2, 2, 1, 1, 1), (8, 8, 8, 8, 7), (1, 1, 2, 2, 16)]
# A run of two ones lifts the level for good, so not all rows that keep these can be joined.
DRIFTING = [(1, 1, 1, 2, 2), (1, 1, 1, 2, 3), (1, 2, 2, 3, 4)]
SEARCHED = DRIFTING + KEPT_BY_NONE + [
    (1, 1, 1, 1, 1), (1, 1, 1, 2, None), (1, 2, 1, 2, 1), (2, 3, 1, 2, 3), (2, 2, 2, 2, None), (1, 2, 1, 3, 3),
    (2, 2, 2, 2, 2), (2, 2, 2, 2, 3), (1, 1, 1, 1, 16), (1, 8, 1, 8, 2),
]
WIDEST = (1, 8, 1, 8, 16)
kept = functools.lru_cache(None)(keeps)


def joint_by_rows(machine, a, b):
    """The first row from room a to room b, of all rows that may be first ones."""
    return next((row for row in rows_to(len(machine)) if walk(machine, a, row) == b), None)


def fill_by_all(bounds, holes):
    """The rising list of the rows that keep the bounds and fill the holes, gone through one by one."""
    rows = itertools.product(*["01" if sign == "?" else sign for sign in holes])
    return [row for row in map("".join, rows) if kept(bounds, row)]


def holes_of(many):
    return map("".join, itertools.product("01?", repeat=many))


class Joint(Asking):
    def test_ordinary(self):
        self.told("1", joint, GOLDEN, 0, 1)
        self.told("0", joint, GOLDEN, 1, 0)
        self.told("1", joint, STAIR, 0, 1)
        self.told("011", joint, ((1, 2), (None, 3), (2, None), (None, 4), (0, 0)), 0, 4)

    def test_from_a_room_to_itself(self):
        for machine in (GOLDEN, STAIR, HALT, CHAIN):
            for room in range(len(machine)):
                self.told("", joint, machine, room, room)

    def test_none(self):
        self.told(None, joint, STAIR, 1, 0)
        self.told(None, joint, ((None, None), (0, 0)), 0, 1)
        self.told(None, joint, CHAIN, 1, 0)

    def test_both_bits_lead_there(self):
        self.told("0", joint, ((1, 1), (None, None)), 0, 1)

    def test_fewer_bits_go_ahead_of_lesser_texts(self):
        # To room 3 lead 1 and 00.
        self.told("1", joint, ((1, 3), (3, None), (None, None), (None, None)), 0, 3)
        # To room 3 lead 01 and 10.
        self.told("01", joint, ((1, 2), (None, 3), (3, None), (None, None)), 0, 3)

    def test_all_small_machines(self):
        for machine in small_machines():
            for a, b in itertools.product(range(len(machine)), repeat=2):
                self.assertEqual(repr(joint_by_rows(machine, a, b)), repr(joint(machine, a, b)))

    def test_from_several_rooms_at_once(self):
        # To room 2 lead 1 from room 0 and 0 from room 1; to room 6 lead 100 and 000 so.
        machine = ((3, 2), (2, None), (4, None), (None, None), (6, None), (None, None), (None, None))
        self.told("0", first_joint, machine, [0, 1], [2])
        self.told("000", first_joint, machine, [0, 1], [6])
        for machine in list(machines_of(3))[::5]:
            rows = [(row, [walk(machine, room, row) for room in (0, 1)]) for row in rows_to(3)]
            for goal in range(3):
                wanted = next((row for row, ends in rows if goal in ends), None)
                self.assertEqual(wanted, first_joint(machine, [0, 1], [goal]))

    def test_60_rooms(self):
        self.told("0" * 59, joint, CHAIN, 0, 59)
        self.told("0" * 59, joint, CYCLE, 1, 0)
        told = [joint(FULL, 5, room) for room in range(60)]
        for room, row in enumerate(told):
            self.assertEqual(room, walk(FULL, 5, row))
            wanted = min((ones + noughts, "0" * noughts + "1" * ones)
                         for ones, noughts in itertools.product(range(11), range(11))
                         if (5 + noughts + 7 * ones) % 60 == room)
            self.assertEqual(wanted, (len(row), row))


class JointBetween(Asking):
    def test_ordinary(self):
        self.told("", joint_between, (1, 2, 1, 2, None), "00", "11")
        self.told("1", joint_between, (1, 2, 1, 2, None), "00", "00")
        self.told("1", joint_between, (1, 2, 1, 2, None), "0", "00")
        self.told("", joint_between, (1, 2, 1, 2, None), "0", "0")
        self.told("11", joint_between, (2, 2, 2, 2, None), "00", "00")
        self.told("1", joint_between, (2, 2, 2, 2, None), "001", "00")

    def test_empty_rows(self):
        self.told("", joint_between, (1, 2, 1, 2, 3), "", "")
        self.told("", joint_between, (1, 2, 1, 2, None), "", "011")
        self.told("", joint_between, (1, 2, 1, 2, None), "011", "")

    def test_one_of_them_does_not_keep_them(self):
        self.told(None, joint_between, (1, 2, 1, 2, None), "000", "")
        self.told(None, joint_between, (1, 2, 1, 2, None), "0", "1011101")
        self.told(None, joint_between, (2, 3, 2, 3, 8), "010", "0")

    def test_nothing_joins_them(self):
        # Behind two ones the level is the highest for ever, and so no two ones come again.
        self.told(None, joint_between, (1, 1, 1, 2, 2), "0110", "0110")
        self.told("", joint_between, (1, 1, 1, 2, 2), "0110", "10")

    def test_bounds_that_nothing_keeps(self):
        for bounds in KEPT_BY_NONE:
            for one, other in (("", ""), ("0", "1"), ("01", "")):
                self.told(None, joint_between, bounds, one, other)

    def test_all_short_rows(self):
        for bounds in SEARCHED:
            machine = machine_of(bounds)
            joints = rows_to(min(len(machine), 8))
            for one, other in itertools.product(rows_to(3), repeat=2):
                wanted = None
                if starts(machine, one) and starts(machine, other):
                    wanted = next((row for row in joints if kept(bounds, one + row + other)), None)
                self.assertEqual(repr(wanted), repr(joint_between(bounds, one, other)), (bounds, one, other))

    def test_all_longer_rows_of_some_bounds(self):
        for bounds in ((1, 2, 1, 3, 3), (2, 3, 1, 2, 3), (1, 1, 1, 2, 3)):
            rows = [row for row in rows_of(6) if kept(bounds, row)]
            for one, other in itertools.product(rows, repeat=2):
                told = joint_between(bounds, one, other)
                wanted = next((row for row in rows_to(7) if kept(bounds, one + row + other)), None)
                self.assertEqual(repr(wanted), repr(told), (bounds, one, other))

    def test_a_lesser_row_from_another_room(self):
        # The ends of a row lie in several rooms at once; the least row may go on from any of them.
        for bounds in ((1, 3, 1, 3, 3), (1, 4, 1, 4, 4)):
            for one, other in itertools.product(("", "0", "1", "01", "10", "00"), ("000", "111", "0000", "1111")):
                wanted = next((row for row in rows_to(8) if kept(bounds, one + row + other)), None)
                self.told(wanted, joint_between, bounds, one, other)

    def test_400_bits(self):
        one, other = "01" * 200, "10" * 200
        self.told("", joint_between, WIDEST, one, other)
        self.told("0", joint_between, (1, 1, 1, 2, None), "1" + "01" * 199 + "1", "1" + "10" * 199 + "1")
        ups = "00000000" + "1" * 8
        self.told("1", joint_between, WIDEST, ups * 24 + "0" * 8, "0" * 8 + "1" * 8)


class Filled(Asking):
    def test_ordinary(self):
        self.told("001", filled, (1, 2, 1, 2, None), "???")
        self.told("0010", filled, (1, 2, 1, 2, None), "00??")
        self.told("0011001", filled, (2, 2, 2, 2, None), "??????1")
        self.told("110011", filled, (2, 2, 2, 2, None), "1?00?1")
        self.told("1010", filled, (1, 1, 1, 2, None), "1?1?")
        self.told("1011", filled, (1, 1, 2, 2, None), "1?1?")

    def test_no_signs(self):
        self.told("", filled, (1, 2, 1, 2, None), "")
        for bounds in KEPT_BY_NONE:
            self.told(None, filled, bounds, "")

    def test_without_holes(self):
        self.told("0110", filled, (1, 2, 1, 2, None), "0110")
        self.told(None, filled, (1, 2, 1, 2, None), "01110")

    def test_holes_alone(self):
        self.told("00100100", filled, (1, 2, 1, 2, None), "????????")
        self.told("0", filled, (8, 8, 8, 8, None), "?")
        self.told("01010101", filled, (1, 1, 1, 1, None), "????????")

    def test_none(self):
        self.told(None, filled, (1, 2, 1, 2, None), "000")
        self.told(None, filled, (2, 2, 2, 2, None), "0?0?0")
        self.told(None, filled, (1, 1, 1, 2, 2), "0110?0110")
        for bounds in KEPT_BY_NONE:
            self.told(None, filled, bounds, "?")

    def test_all_short_texts(self):
        for bounds in SEARCHED:
            for many in range(5):
                for holes in holes_of(many):
                    rows = fill_by_all(bounds, holes)
                    self.assertEqual(repr(rows[0] if rows else None), repr(filled(bounds, holes)), (bounds, holes))
                    self.assertEqual(repr(len(rows)), repr(fillings(bounds, holes)), (bounds, holes))

    def test_some_longer_texts(self):
        for bounds in ((1, 2, 1, 3, 3), (2, 3, 1, 2, 3), (1, 1, 1, 2, 3), (1, 2, 2, 3, 4), (1, 3, 2, 4, None)):
            for holes in ("?" * 10, "0????????1", "?1?0?1?0?1", "1???0???1??", "??00????11?", "0?0?0?0?0?0"):
                rows = fill_by_all(bounds, holes)
                self.told(rows[0] if rows else None, filled, bounds, holes)
                self.told(len(rows), fillings, bounds, holes)

    def test_400_signs(self):
        self.told("001" * 133 + "0", filled, (1, 2, 1, 2, None), "?" * 400)
        row = filled(WIDEST, "?" * 400)
        self.assertTrue(keeps(WIDEST, row))
        self.assertEqual("0" * 8 + "1" + "0" * 8 + "1", row[:18])
        self.told("10" * 200, filled, (1, 1, 1, 1, 1), "1" + "?" * 399)
        self.told(None, filled, (1, 1, 1, 1, 1), "1" + "?" * 398 + "1")


class Fillings(Asking):
    def test_ordinary(self):
        self.told(6, fillings, (1, 2, 1, 2, None), "???")
        self.told(1, fillings, (2, 2, 2, 2, None), "1?00?1")
        self.told(2, fillings, (1, 1, 1, 1, None), "????????")
        self.told(4, fillings, (2, 2, 2, 2, None), "??????")

    def test_rows_are_counted_and_not_their_walks(self):
        # The empty row, and a bit alone, can be walked from many rooms.
        self.told(1, fillings, (1, 8, 1, 8, 16), "")
        self.told(2, fillings, (1, 8, 1, 8, 16), "?")
        self.told(1, fillings, (1, 8, 1, 8, 16), "0")
        self.told(4, fillings, (1, 8, 1, 8, 16), "??")

    def test_none(self):
        self.told(0, fillings, (1, 2, 1, 2, None), "000")
        self.told(0, fillings, (1, 2, 1, 2, None), "0?00?000")
        for bounds in KEPT_BY_NONE:
            for holes in ("", "?", "0", "??1"):
                self.told(0, fillings, bounds, holes)

    def test_no_signs_and_no_holes(self):
        self.told(1, fillings, (1, 2, 1, 2, None), "")
        self.told(1, fillings, (1, 2, 1, 2, None), "0110")

    def test_400_signs(self):
        # Runs of one or two bits: behind the first bit each bit begins a run or not, never twice not.
        before, now = 1, 2
        for _ in range(399):
            before, now = now, before + now
        self.told(2 * before, fillings, (1, 2, 1, 2, None), "?" * 400)
        self.told(before, fillings, (1, 2, 1, 2, None), "1" + "?" * 399)
        self.told(2, fillings, (1, 1, 1, 1, 1), "?" * 400)
        self.told(4, fillings, (2, 2, 2, 2, 2), "?" * 400)
        # From each of three levels each second bit is free; the two rows without a longer run begin from two of them.
        self.told(3 * 2 ** 200 - 2, fillings, (1, 2, 1, 2, 2), "?" * 400)

    def test_the_widest_bounds(self):
        wanted = len(fill_by_all(WIDEST, "?" * 11))
        self.told(wanted, fillings, WIDEST, "?" * 11)
        self.assertGreater(fillings(WIDEST, "?" * 400), 2 ** 380)


class ByTurns(Asking):
    def test_two_bounds_by_turns(self):
        for _ in range(3):
            self.told("1", joint_between, (1, 2, 1, 2, None), "00", "00")
            self.told("11", joint_between, (2, 2, 2, 2, None), "00", "00")
            self.told("001", filled, (1, 2, 1, 2, None), "???")
            self.told("010", filled, (1, 1, 1, 1, None), "???")
            self.told(6, fillings, (1, 2, 1, 2, None), "???")
            self.told(2, fillings, (1, 1, 1, 1, None), "???")


if __name__ == "__main__":
    unittest.main()
