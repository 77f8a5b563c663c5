import itertools
import unittest

from asking import Asking, deep_things, rows_to
from runbound.bounds import fault_at, is_bounds, keeps, machine_of, next_bits, rooms_of
from runbound.machines import is_machine, starts, trimmed, walk
from runbound.rows import runs, spread_of

SPANS = [(low, high) for high in range(1, 9) for low in range(1, high + 1)]
SPREADS = (None,) + tuple(range(1, 17))
SHORT = [zero + one for zero in SPANS[:6] for one in SPANS[:6]]
# No endless row keeps these: a spread below a low, and ones that outweigh the noughts for ever.
KEPT_BY_NONE = [
    (2, 2, 1, 1, 1), (1, 1, 2, 3, 1), (8, 8, 8, 8, 7), (3, 4, 1, 2, 2), (1, 1, 2, 2, 16), (2, 2, 3, 3, 5),
    (8, 8, 1, 7, 16), (1, 2, 3, 8, 16),
]
# Rows that stand only where something else can never come again: a run of two ones lifts the level for good.
DRIFTING = [(1, 1, 1, 2, 2), (1, 1, 1, 2, 3), (1, 2, 2, 3, 4)]
SEARCHED = DRIFTING + [
    (1, 1, 1, 1, 1), (1, 1, 1, 2, None), (1, 2, 1, 2, 1), (2, 3, 1, 2, 3), (1, 3, 2, 3, 3), (2, 3, 2, 3, 4),
    (1, 1, 2, 2, 4), (3, 3, 3, 3, 3), (3, 3, 3, 3, 4), (2, 2, 3, 3, 5), (2, 2, 2, 2, None), (1, 1, 3, 3, None),
]


def endless_keeps(bounds, left, middle, right):
    """Whether the endless row ..left left middle right right.. keeps the bounds, by the words of the document."""
    low0, high0, low1, high1, spread = bounds
    # So many times that each sum that goes on rising or falling has left any spread.
    row = left * 24 + middle + right * 24
    inner = runs(row)[1:-1]
    if len(inner) < 4 or not all((low0, low1)[bit] <= many <= (high0, high1)[bit] for bit, many in inner):
        return False
    return spread is None or spread_of(row) <= spread


def short_endless_rows(bounds):
    """Triples (left, middle, right) of endless rows that keep the bounds, their ends repeated for ever."""
    ends = [row for row in rows_to(6) if row and endless_keeps(bounds, row, "", row)]
    told = [(end, "", end) for end in ends]
    # Turned or repeated ends make the same endless rows with another middle.
    first = {min((end[at:] + end[:at]) * 60 for at in range(len(end)))[:60]: end for end in reversed(ends)}
    for left, right in itertools.product(list(first.values())[:4], repeat=2):
        told += [(left, row, right) for row in rows_to(8) if row and endless_keeps(bounds, left, row, right)]
    return told


def pieces(bounds, most):
    """The set of the rows of up to so many bits that stand in short endless rows."""
    found = set()
    for left, middle, right in short_endless_rows(bounds):
        row = left * 8 + middle + right * 8
        found |= {row[at:at + many] for many in range(most + 1) for at in range(len(row) - many + 1)}
    return found


def live_runs(bounds):
    """The runs (bit, level ahead, many, level behind) of endless rows, searched run by run."""
    low0, high0, low1, high1, spread = bounds
    levels = range(1 if spread is None else spread + 1)
    step = (0, 0) if spread is None else (-1, 1)
    made = []
    for bit, low, high in ((0, low0, high0), (1, low1, high1)):
        made += [(bit, level, many, level + step[bit] * many) for level in levels for many in range(low, high + 1)]
    made = [run for run in made if run[3] in levels]
    ahead = behind = {(bit, level) for bit in (0, 1) for level in levels}
    for _ in range(2 * len(levels)):
        ahead = {(1 - bit, end) for bit, level, many, end in made if (bit, level) in ahead}
        behind = {(bit, level) for bit, level, many, end in made if (1 - bit, end) in behind}
    return [run for run in made if run[:2] in ahead and (1 - run[0], run[3]) in behind]


def rooms_by_runs(bounds):
    step = (0, 0) if bounds[4] is None else (-1, 1)
    return sorted({
        (bit, place, level + step[bit] * place)
        for bit, level, many, end in live_runs(bounds)
        for place in range(1, many + 1)
    })


def rows_by_runs(bounds, most):
    """The set of the rows of up to so many bits that the runs of endless rows make."""
    live = live_runs(bounds)
    waiting = {(str(bit) * left, 1 - bit, end) for bit, level, many, end in live for left in range(many + 1)}
    found = set()
    while waiting:
        row, bit, level = waiting.pop()
        found |= {row[:many] for many in range(min(most, len(row)) + 1)}
        if len(row) < most:
            waiting |= {(row + str(bit) * run[2], 1 - bit, run[3]) for run in live if run[:2] == (bit, level)}
    return found


class IsBounds(Asking):
    def test_all_lows_and_highs(self):
        for zero, one, spread in itertools.product(SPANS, SPANS, (None, 1, 16)):
            self.assertIs(True, is_bounds(zero + one + (spread,)))
        for spread in SPREADS:
            self.told(True, is_bounds, (1, 8, 2, 3, spread))

    def test_lows_above_highs(self):
        for low, high in itertools.product(range(1, 9), repeat=2):
            self.told(low <= high, is_bounds, (low, high, 1, 1, None))
            self.told(low <= high, is_bounds, (1, 1, low, high, 3))

    def test_beyond_the_edges(self):
        for wrong in (0, 9, -1, 10 ** 40, -(10 ** 40)):
            for at in range(4):
                self.told(False, is_bounds, (1, 8, 1, 8)[:at] + (wrong,) + (1, 8, 1, 8)[at + 1:] + (None,))
        for wrong in (0, -1, 17, 10 ** 40, -(10 ** 40)):
            self.told(False, is_bounds, (1, 8, 1, 8, wrong))
        self.told(False, is_bounds, (9, 9, 1, 1, 1))
        self.told(False, is_bounds, (0, 0, 1, 1, 1))

    def test_each_part_of_any_kind(self):
        parts = (0, 1, 2, 8, 9, True, None, "1", (1,), [1])
        spreads = (None, 0, 1, 16, 17, True, False, "", "1", (), [])
        for first in itertools.product(parts, repeat=4):
            numbers = all(type(part) is int for part in first)
            wanted = numbers and 1 <= first[0] <= first[1] <= 8 and 1 <= first[2] <= first[3] <= 8
            for spread in spreads if wanted else spreads[:1]:
                right = spread is None or type(spread) is int and 1 <= spread <= 16
                self.assertIs(wanted and right, is_bounds(first + (spread,)))

    def test_another_number_of_parts(self):
        parts = (1, 1, 1, 1, 1, 1, 1, 1, 1, 1)
        for many in (0, 1, 2, 3, 4, 6, 10):
            self.told(False, is_bounds, parts[:many])
        self.told(False, is_bounds, (1, 1, 1, 1, None, None))

    def test_other_things_as_a_whole(self):
        things = [None, True, False, 0, 1, 11111, "", "11111", "12345", [], [1, 1, 1, 1, 1], [1, 1, 1, 1, None]]
        for thing in things + [((1, 1, 1, 1, 1),), [(1, 1, 1, 1, 1)], ((1, 1), (1, 1), None)]:
            self.told(False, is_bounds, thing)

    def test_nested_deep(self):
        for thing in deep_things():
            self.assertIs(False, is_bounds(thing))
            for at in range(5):
                self.assertIs(False, is_bounds((1, 1, 1, 1, 1)[:at] + (thing,) + (1, 1, 1, 1, 1)[at + 1:]))


class Keeps(Asking):
    def test_ordinary(self):
        self.told(True, keeps, (1, 3, 1, 3, None), "0001011")
        self.told(False, keeps, (1, 3, 1, 3, None), "000010")
        self.told(False, keeps, (2, 3, 1, 3, None), "1011")
        self.told(True, keeps, (1, 3, 1, 3, 3), "0001011")
        self.told(False, keeps, (1, 3, 1, 3, 2), "0001011")

    def test_each_bit_has_its_own_bounds(self):
        self.told(True, keeps, (1, 2, 3, 4, None), "0011110111")
        self.told(False, keeps, (3, 4, 1, 2, None), "0011110111")

    def test_the_first_and_the_last_run_may_be_short(self):
        self.told(True, keeps, (3, 3, 3, 3, None), "01110")
        self.told(True, keeps, (3, 3, 3, 3, None), "0")
        self.told(False, keeps, (3, 3, 3, 3, None), "011011")
        self.told(False, keeps, (3, 3, 3, 3, None), "0000111")
        self.told(False, keeps, (3, 3, 3, 3, None), "1110000")

    def test_the_empty_row(self):
        for bounds in ((1, 1, 1, 1, 1), (8, 8, 8, 8, 8), (1, 8, 1, 8, 16), (1, 1, 8, 8, None)):
            self.told(True, keeps, bounds, "")

    def test_bounds_that_nothing_keeps(self):
        for bounds in KEPT_BY_NONE:
            for row in ("", "0", "1", "01", "0011"):
                self.told(False, keeps, bounds, row)

    def test_without_a_spread_just_by_runs(self):
        for span in SHORT:
            for row in rows_to(8):
                told = runs(row)
                long = any(many > span[2 * bit + 1] for bit, many in told)
                short = any(many < span[2 * bit] for bit, many in told[1:-1])
                self.assertIs(not long and not short, keeps(span + (None,), row))

    def test_a_spread_that_the_row_alone_would_keep(self):
        # The row's own sums stay within 3, but the run of noughts it must be lengthened to leaves them.
        self.told(False, keeps, (4, 4, 1, 8, 3), "0")
        self.told(True, keeps, (4, 4, 1, 8, 4), "0")
        # A lifted level never comes down again, so ones may lift it no more often than there is room.
        self.told(True, keeps, (1, 1, 1, 2, 2), "0110")
        self.told(False, keeps, (1, 1, 1, 2, 2), "0110110")
        self.told(True, keeps, (1, 1, 1, 2, 3), "0110110")

    def test_as_short_endless_rows_do(self):
        for bounds in SEARCHED:
            found = pieces(bounds, 5)
            for row in rows_to(5):
                self.assertIs(row in found, keeps(bounds, row), (bounds, row))

    def test_as_a_search_by_runs_does(self):
        for span, spread in itertools.product(SHORT, (1, 2, 3, 5)):
            found = rows_by_runs(span + (spread,), 7)
            for row in rows_to(7):
                self.assertIs(row in found, keeps(span + (spread,), row), (span, spread, row))

    def test_spreads_of_1_and_16_and_runs_of_8(self):
        self.told(True, keeps, (1, 8, 1, 8, 1), "01" * 200)
        self.told(False, keeps, (1, 8, 1, 8, 1), "00")
        self.told(True, keeps, (1, 8, 1, 8, 16), "0" * 8 + "1" + "0" * 8 + "100")
        self.told(False, keeps, (1, 8, 1, 8, 16), "0" * 8 + "1" + "0" * 8 + "1000")
        self.told(True, keeps, (8, 8, 8, 8, 16), "0" * 8 + "1" * 8)
        self.told(True, keeps, (8, 8, 8, 8, 8), "0" * 8 + "1" * 8)
        self.told(False, keeps, (8, 8, 8, 8, None), "0" * 9)

    def test_400_bits(self):
        self.told(True, keeps, (8, 8, 8, 8, 8), ("0" * 8 + "1" * 8) * 25)
        self.told(True, keeps, (1, 8, 1, 8, 16), "0011" * 100)
        self.told(False, keeps, (1, 8, 1, 8, 16), "0011" * 97 + "0" * 9 + "111")


class FaultAt(Asking):
    def test_ordinary(self):
        self.told(None, fault_at, (1, 3, 1, 3, None), "0001011")
        self.told(4, fault_at, (1, 3, 1, 3, None), "0000111100")
        self.told(3, fault_at, (2, 3, 2, 3, None), "010101")
        self.told(3, fault_at, (1, 3, 1, 3, 2), "000")

    def test_bounds_that_nothing_keeps(self):
        for bounds in KEPT_BY_NONE:
            for row in ("", "0", "1", "0101", "01" * 200):
                self.told(0, fault_at, bounds, row)

    def test_the_empty_row(self):
        self.told(None, fault_at, (1, 1, 1, 1, 1), "")
        self.told(None, fault_at, (8, 8, 8, 8, 16), "")

    def test_the_first_bit(self):
        # Each bit stands in some row of bounds that any row keeps, so 1 is never told.
        for bounds in ((1, 1, 1, 1, 1), (8, 8, 8, 8, None), (1, 1, 1, 2, 2)):
            self.told(None, fault_at, bounds, "0")
            self.told(None, fault_at, bounds, "1")
        self.told(2, fault_at, (1, 1, 1, 2, 2), "00")

    def test_the_least_beginning_that_faults(self):
        for bounds in SEARCHED + KEPT_BY_NONE:
            found = rows_by_runs(bounds, 7)
            for row in rows_to(7):
                wanted = [many for many in range(len(row) + 1) if row[:many] not in found]
                self.assertEqual(repr(wanted[0] if wanted else None), repr(fault_at(bounds, row)), (bounds, row))

    def test_400_bits(self):
        self.told(None, fault_at, (1, 1, 1, 1, 1), "01" * 200)
        self.told(400, fault_at, (1, 1, 1, 1, 1), "01" * 199 + "00")
        self.told(None, fault_at, (1, 8, 1, 8, 16), ("0" * 8 + "1" * 8) * 25)
        self.told(400, fault_at, (1, 8, 1, 8, 16), "01" * 195 + "1" + "0" * 8 + "0")
        self.told(17, fault_at, (1, 8, 1, 8, 8), "0" * 8 + "1" * 392)


class NextBits(Asking):
    def test_ordinary(self):
        self.told("01", next_bits, (1, 2, 1, 2, None), "0")
        self.told("1", next_bits, (1, 2, 1, 2, None), "00")
        self.told("0", next_bits, (1, 2, 1, 2, None), "0011")
        self.told("1", next_bits, (1, 2, 3, 4, None), "011")
        self.told("0", next_bits, (1, 2, 1, 2, 2), "011")
        self.told("01", next_bits, (1, 2, 1, 2, 2), "01")

    def test_the_empty_row(self):
        self.told("01", next_bits, (1, 1, 1, 1, 1), "")
        self.told("01", next_bits, (8, 8, 8, 8, None), "")

    def test_rows_that_do_not_keep(self):
        self.told("", next_bits, (1, 2, 1, 2, None), "000")
        self.told("", next_bits, (1, 2, 1, 2, None), "0001")
        for bounds in KEPT_BY_NONE:
            self.told("", next_bits, bounds, "")
            self.told("", next_bits, bounds, "01")

    def test_all_short_rows(self):
        for bounds in SEARCHED:
            found = rows_by_runs(bounds, 7)
            for row in rows_to(6):
                wanted = "".join(bit for bit in "01" if row + bit in found)
                self.assertEqual(repr(wanted), repr(next_bits(bounds, row)), (bounds, row))

    def test_a_row_that_keeps_can_go_on(self):
        for bounds in SEARCHED:
            for row in rows_by_runs(bounds, 6):
                self.assertNotEqual("", next_bits(bounds, row))

    def test_400_bits(self):
        self.told("0", next_bits, (1, 1, 1, 1, 1), "01" * 200)
        self.told("01", next_bits, (1, 8, 1, 8, 16), "0011" * 100)
        self.told("1", next_bits, (1, 8, 1, 8, 16), "0011" * 98 + "0" * 8)


class RoomsOf(Asking):
    def test_ordinary(self):
        self.told([(0, 1, 0), (1, 1, 0)], rooms_of, (1, 1, 1, 1, None))
        self.told([(0, 1, 0), (1, 1, 1)], rooms_of, (1, 1, 1, 1, 1))
        self.told([(0, 1, 0), (0, 1, 1), (1, 1, 1), (1, 1, 2)], rooms_of, (1, 1, 1, 1, 2))
        self.told([(0, 1, 0), (0, 2, 0), (1, 1, 0), (1, 2, 0), (1, 3, 0)], rooms_of, (1, 2, 3, 3, None))
        self.told([(0, 1, 1), (0, 2, 0), (1, 1, 1), (1, 2, 2)], rooms_of, (2, 2, 2, 2, 2))

    def test_a_spread_narrows_the_runs(self):
        self.told([(0, 1, 0), (1, 1, 1)], rooms_of, (1, 8, 1, 8, 1))

    def test_bounds_that_nothing_keeps(self):
        for bounds in KEPT_BY_NONE:
            self.told([], rooms_of, bounds)

    def test_the_greatest(self):
        levels = [(0, place, level) for place in range(1, 9) for level in range(17 - place)]
        levels += [(1, place, level) for place in range(1, 9) for level in range(place, 17)]
        self.told(levels, rooms_of, (1, 8, 1, 8, 16))

    def test_as_a_search_by_runs_finds_them(self):
        for span, spread in itertools.product(SHORT, SPREADS):
            self.assertEqual(repr(rooms_by_runs(span + (spread,))), repr(rooms_of(span + (spread,))))
        for zero, one in zip(SPANS, SPANS[::-1]):
            for spread in SPREADS:
                bounds = zero + one + (spread,)
                self.assertEqual(repr(rooms_by_runs(bounds)), repr(rooms_of(bounds)))

    def test_as_short_endless_rows_have_them(self):
        for bounds in SEARCHED:
            spread = bounds[4]
            found = set()
            for left, middle, right in short_endless_rows(bounds):
                row = left * 24 + middle + right * 24
                level, places = 0, []
                for bit, many in runs(row):
                    for place in range(1, many + 1):
                        level += 0 if spread is None else 2 * bit - 1
                        places.append((bit, place, level))
                # The first run is cut off, so its places aren't told by counting.
                inside = places[runs(row)[0][1]:]
                levels = [room[2] for room in places] + [0]
                top = 0 if spread is None else spread
                for lift in range(-min(levels), top - max(levels) + 1):
                    found |= {(bit, place, level + lift) for bit, place, level in inside}
            self.assertEqual(sorted(found), rooms_of(bounds), bounds)


class MachineOf(Asking):
    def test_ordinary(self):
        self.told(((None, 1), (0, None)), machine_of, (1, 1, 1, 1, None))
        self.told(((None, 1), (0, None)), machine_of, (1, 1, 1, 1, 1))
        self.told(((None, 2), (None, 3), (0, None), (1, None)), machine_of, (1, 1, 1, 1, 2))
        self.told(((1, 2), (None, 2), (0, 3), (0, None)), machine_of, (1, 2, 1, 2, None))
        self.told(((1, None), (None, 2), (None, 3), (0, None)), machine_of, (2, 2, 2, 2, 2))

    def test_a_run_that_is_too_short_leads_nowhere(self):
        # Behind one nought of two a one finds no room, though its room is there.
        self.told(((1, None), (None, 2), (0, None)), machine_of, (2, 2, 1, 1, None))

    def test_bounds_that_nothing_keeps(self):
        for bounds in KEPT_BY_NONE:
            self.told((), machine_of, bounds)

    def test_what_leads_where(self):
        for span, spread in itertools.product(SHORT, (None, 1, 2, 4, 16)):
            bounds = span + (spread,)
            rooms = rooms_by_runs(bounds)
            wanted = []
            for last, place, level in rooms:
                behind = []
                for bit in (0, 1):
                    lift = 0 if spread is None else 2 * bit - 1
                    here = (bit, place + 1 if bit == last else 1, level + lift)
                    may = here in rooms and (bit == last or place >= span[2 * last])
                    behind.append(rooms.index(here) if may else None)
                wanted.append(tuple(behind))
            self.assertEqual(repr(tuple(wanted)), repr(machine_of(bounds)))

    def test_it_is_a_machine_with_nothing_to_trim(self):
        for zero, one in zip(SPANS, SPANS[5:] + SPANS[:5]):
            for spread in SPREADS:
                machine = machine_of(zero + one + (spread,))
                self.assertIs(True, is_machine(machine))
                self.assertEqual((machine, list(range(len(machine)))), trimmed(machine))

    def test_just_the_rows_that_keep_can_be_walked(self):
        for bounds in SEARCHED + KEPT_BY_NONE:
            machine = machine_of(bounds)
            found = rows_by_runs(bounds, 6)
            for row in rows_to(6):
                self.assertIs(row in found, starts(machine, row) != [])
                self.assertIs(row in found, keeps(bounds, row))

    def test_a_great_one(self):
        machine = machine_of((1, 8, 1, 8, 16))
        rooms = rooms_of((1, 8, 1, 8, 16))
        self.assertEqual(200, len(machine))
        self.assertIs(True, is_machine(machine))
        start = rooms.index((0, 1, 8))
        self.assertEqual((0, 8, 1), rooms[walk(machine, start, "0" * 7)])
        self.assertEqual((1, 8, 8), rooms[walk(machine, rooms.index((0, 8, 0)), "1" * 8)])
        self.assertEqual((0, 8, 8), rooms[walk(machine, start, ("1" * 8 + "0" * 8) * 25)])
        self.assertIsNone(walk(machine, start, "0" * 8))
        self.assertEqual(len(rooms), len(starts(machine, "")))


class ByTurns(Asking):
    def test_two_bounds_by_turns(self):
        for _ in range(3):
            self.told(True, keeps, (1, 2, 1, 2, None), "0010")
            self.told(False, keeps, (1, 1, 1, 2, None), "0010")
            self.told(3, fault_at, (1, 2, 1, 2, None), "000")
            self.told(2, fault_at, (1, 1, 1, 2, None), "000")
            self.told("01", next_bits, (1, 2, 1, 2, None), "0")
            self.told("1", next_bits, (1, 1, 1, 2, None), "0")
            self.told([(0, 1, 0), (1, 1, 1)], rooms_of, (1, 1, 1, 1, 1))
            self.told([(0, 1, 0), (1, 1, 0)], rooms_of, (1, 1, 1, 1, None))
            self.told(((None, 1), (0, None)), machine_of, (1, 1, 1, 1, None))
            self.told((), machine_of, (2, 2, 1, 1, 1))


if __name__ == "__main__":
    unittest.main()
