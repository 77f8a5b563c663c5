import itertools
import unittest

from asking import CHAIN, CYCLE, FULL, Asking, machines_of, rows_of
from runbound.bounds import machine_of
from runbound.counting import counts, counts_to, next_row, number_of, row_at, rows_between
from runbound.errors import NoNumber, NoRow
from runbound.machines import walk

# No two ones stand together.
GOLDEN = ((0, 1), (0, None))
# Noughts, then ones for ever: one row more for each bit.
STAIR = ((0, 1), (None, 1))
# Both bits of room 0 lead to 1, which leads back by 0 alone.
BOTH = ((1, 1), (0, None))
HALT = ((None, None),)
# From room 1 all rows go on but none leads to room 2, to which a single one leads from room 0.
TRAP = ((1, 2), (1, 1), (2, None))


def rows_by_one(machine, room, goal, many):
    """The rows from a room to a goal, put together one by one."""
    told = []
    for row in rows_of(many):
        end = walk(machine, room, row)
        if end is not None and goal in (None, end):
            told.append(row)
    return told


def questions(many):
    """Each machine of two rooms, room and goal, and so many bits at most."""
    for machine in machines_of(2):
        for room, goal, bits in itertools.product((0, 1), (None, 0, 1), range(many + 1)):
            yield machine, room, goal, bits


class Counts(Asking):
    def test_ordinary(self):
        self.told([5, 3], counts, GOLDEN, 3)
        self.told([4, 1], counts, STAIR, 3)
        self.told([2, 1], counts, BOTH, 1)
        self.told([2, 2], counts, BOTH, 2)

    def test_of_no_bits(self):
        self.told([1, 1], counts, GOLDEN, 0)
        self.told([1], counts, HALT, 0)
        self.told([1] * 60, counts, CHAIN, 0)

    def test_without_rooms(self):
        self.told([], counts, (), 0)
        self.told([], counts, (), 400)

    def test_rooms_that_lead_nowhere(self):
        self.told([0], counts, HALT, 1)
        self.told([2 ** 59] + [0] * 59, counts, CHAIN, 59)

    def test_400_bits(self):
        self.told([2 ** 400] * 60, counts, FULL, 400)
        self.told([1] * 60, counts, CYCLE, 400)
        self.told([0] * 60, counts, CHAIN, 400)
        self.told([401, 1], counts, STAIR, 400)
        pair = [1, 1]
        for _ in range(400):
            pair = [pair[0] + pair[1], pair[0]]
        self.told(pair, counts, GOLDEN, 400)

    def test_rows_put_together_one_by_one(self):
        for machine in machines_of(2):
            for many in range(7):
                wanted = [len(rows_by_one(machine, room, None, many)) for room in range(2)]
                self.assertEqual(repr(wanted), repr(counts(machine, many)))

    def test_machines_of_bounds(self):
        for bounds in ((1, 2, 1, 3, 3), (2, 3, 1, 2, None)):
            machine = machine_of(bounds)
            for many in (0, 1, 5, 8):
                wanted = [len(rows_by_one(machine, room, None, many)) for room in range(len(machine))]
                self.told(wanted, counts, machine, many)


class CountsTo(Asking):
    def test_ordinary(self):
        self.told([3, 2], counts_to, GOLDEN, 3, 0)
        self.told([2, 1], counts_to, GOLDEN, 3, 1)
        self.told([2, 0], counts_to, BOTH, 1, 1)
        self.told([1, 0], counts_to, STAIR, 400, 0)
        self.told([400, 1], counts_to, STAIR, 400, 1)

    def test_of_no_bits_only_from_the_goal(self):
        self.told([1, 0], counts_to, GOLDEN, 0, 0)
        self.told([0, 1], counts_to, GOLDEN, 0, 1)
        self.told([1], counts_to, HALT, 0, 0)

    def test_nothing_leads_there(self):
        self.told([0], counts_to, HALT, 1, 0)
        self.told([0, 1], counts_to, STAIR, 0, 1)
        self.told([0, 0], counts_to, ((0, 0), (0, 0)), 3, 1)

    def test_400_bits(self):
        self.told([2 if room == 3 else 0 for room in range(60)], counts_to,
                  CYCLE[:2] + ((3, None), (4, 4)) + CYCLE[4:59] + ((None, None),), 1, 4)
        self.told([1 if (room + 400) % 60 == 5 else 0 for room in range(60)], counts_to, CYCLE, 400, 5)
        self.told([2 ** 59] + [0] * 59, counts_to, CHAIN, 59, 59)

    def test_over_all_goals_they_are_counts(self):
        for machine in (FULL, GOLDEN, STAIR, BOTH, CHAIN):
            for many in (0, 1, 17, 60):
                told = [counts_to(machine, many, goal) for goal in range(len(machine))]
                self.assertEqual(counts(machine, many), [sum(column) for column in zip(*told)])

    def test_rows_put_together_one_by_one(self):
        for machine in machines_of(2):
            for many, goal in itertools.product(range(6), (0, 1)):
                wanted = [len(rows_by_one(machine, room, goal, many)) for room in range(2)]
                self.assertEqual(repr(wanted), repr(counts_to(machine, many, goal)))


class RowsBetween(Asking):
    def test_ordinary(self):
        self.told(["000", "001", "010", "100", "101"], rows_between, GOLDEN, 0, None, 3)
        self.told(["000", "010", "100"], rows_between, GOLDEN, 0, 0, 3)
        self.told(["001", "101"], rows_between, GOLDEN, 0, 1, 3)
        self.told(["00", "10"], rows_between, BOTH, 0, 0, 2)
        self.told(["0", "1"], rows_between, BOTH, 0, 1, 1)

    def test_of_no_bits(self):
        self.told([""], rows_between, GOLDEN, 1, None, 0)
        self.told([""], rows_between, GOLDEN, 1, 1, 0)
        self.told([], rows_between, GOLDEN, 1, 0, 0)

    def test_none(self):
        self.told([], rows_between, HALT, 0, None, 1)
        self.told([], rows_between, HALT, 0, 0, 1)
        self.told([], rows_between, STAIR, 1, 0, 5)
        self.told([], rows_between, CHAIN, 0, None, 400)

    def test_400_bits(self):
        stairs = ["0" * (400 - ones) + "1" * ones for ones in range(401)]
        self.told(stairs, rows_between, STAIR, 0, None, 400)
        self.told(stairs[1:], rows_between, STAIR, 0, 1, 400)
        self.told(["0" * 400], rows_between, STAIR, 0, 0, 400)
        self.told(["0" * 400], rows_between, CYCLE, 0, 40, 400)
        self.told([], rows_between, CYCLE, 0, 41, 400)

    def test_beginnings_that_lead_elsewhere_cost_nothing(self):
        self.told(["1" + "0" * 399], rows_between, TRAP, 0, 2, 400)

    def test_rows_put_together_one_by_one(self):
        for machine, room, goal, many in questions(5):
            wanted = rows_by_one(machine, room, goal, many)
            self.assertEqual(repr(wanted), repr(rows_between(machine, room, goal, many)))

    def test_500_rows_of_60_rooms(self):
        self.told(rows_of(8), rows_between, FULL, 17, None, 8)
        wanted = [row for row in rows_of(9) if (17 + 9 + 6 * row.count("1")) % 60 == 50]
        self.told(wanted, rows_between, FULL, 17, 50, 9)


class RowAt(Asking):
    def test_ordinary(self):
        for number, row in enumerate(["000", "001", "010", "100", "101"]):
            self.told(row, row_at, GOLDEN, 0, None, 3, number)
        self.told("010", row_at, GOLDEN, 0, 0, 3, 1)
        self.told("101", row_at, GOLDEN, 0, 1, 3, 1)
        self.told("10", row_at, BOTH, 0, 0, 2, 1)

    def test_of_no_bits(self):
        self.told("", row_at, GOLDEN, 1, None, 0, 0)
        self.told("", row_at, GOLDEN, 1, 1, 0, 0)
        self.refused(NoNumber, row_at, GOLDEN, 1, None, 0, 1)
        self.refused(NoNumber, row_at, GOLDEN, 1, 0, 0, 0)

    def test_numbers_below_0_and_beyond_the_last(self):
        for number in (-1, -2, -5, 5, 6, 10 ** 40, -(10 ** 40)):
            self.refused(NoNumber, row_at, GOLDEN, 0, None, 3, number)
        # Python makes no text of numbers as great as these.
        for number in (10 ** 5000, -(10 ** 5000)):
            with self.assertRaises(NoNumber):
                row_at(GOLDEN, 0, None, 3, number)
        self.refused(NoNumber, row_at, GOLDEN, 0, 1, 3, 2)
        self.refused(NoNumber, row_at, HALT, 0, None, 1, 0)
        self.refused(NoNumber, row_at, CHAIN, 0, None, 400, 0)
        self.refused(NoNumber, row_at, STAIR, 1, 0, 5, 0)

    def test_400_bits(self):
        for number in (0, 1, 2 ** 399, 2 ** 400 - 1, 3 ** 250):
            self.told(bin(number)[2:].zfill(400), row_at, FULL, 11, None, 400, number)
        self.refused(NoNumber, row_at, FULL, 11, None, 400, 2 ** 400)
        self.told("0" * 400, row_at, STAIR, 0, None, 400, 0)
        self.told("1" * 400, row_at, STAIR, 0, None, 400, 400)
        self.told("0" + "1" * 399, row_at, STAIR, 0, 1, 400, 398)
        self.refused(NoNumber, row_at, STAIR, 0, None, 400, 401)
        self.told("1" + "0" * 399, row_at, TRAP, 0, 2, 400, 0)

    def test_each_number_of_small_machines(self):
        for machine, room, goal, many in questions(4):
            rows = rows_by_one(machine, room, goal, many)
            for number, row in enumerate(rows):
                self.assertEqual(repr(row), repr(row_at(machine, room, goal, many, number)))
            for number in (-1, len(rows)):
                self.refused(NoNumber, row_at, machine, room, goal, many, number)


class NumberOf(Asking):
    def test_ordinary(self):
        for number, row in enumerate(["000", "001", "010", "100", "101"]):
            self.told(number, number_of, GOLDEN, 0, None, row)
        self.told(1, number_of, GOLDEN, 0, 0, "010")
        self.told(1, number_of, GOLDEN, 0, 1, "101")
        self.told(1, number_of, BOTH, 0, 1, "1")

    def test_the_empty_row(self):
        self.told(0, number_of, GOLDEN, 1, None, "")
        self.told(0, number_of, GOLDEN, 0, 0, "")
        self.told(0, number_of, HALT, 0, 0, "")
        self.refused(NoRow, number_of, GOLDEN, 0, 1, "")
        self.refused(NoRow, number_of, GOLDEN, 1, 0, "")

    def test_rows_that_cannot_be_walked(self):
        self.refused(NoRow, number_of, GOLDEN, 0, None, "11")
        self.refused(NoRow, number_of, GOLDEN, 0, None, "0110")
        self.refused(NoRow, number_of, GOLDEN, 1, None, "1")
        self.refused(NoRow, number_of, GOLDEN, 0, 0, "110")
        self.refused(NoRow, number_of, HALT, 0, None, "0")
        self.refused(NoRow, number_of, CHAIN, 0, None, "0" * 60)

    def test_rows_that_lead_elsewhere(self):
        self.refused(NoRow, number_of, GOLDEN, 0, 1, "010")
        self.refused(NoRow, number_of, GOLDEN, 0, 0, "01")
        self.refused(NoRow, number_of, STAIR, 0, 0, "01")

    def test_400_bits(self):
        for number in (0, 1, 2 ** 399, 2 ** 400 - 1, 3 ** 250):
            self.told(number, number_of, FULL, 11, None, bin(number)[2:].zfill(400))
        self.told(400, number_of, STAIR, 0, None, "1" * 400)
        self.told(399, number_of, STAIR, 0, 1, "1" * 400)
        self.refused(NoRow, number_of, STAIR, 0, None, "1" * 399 + "0")

    def test_it_undoes_row_at(self):
        for machine, goal in itertools.product((GOLDEN, BOTH, FULL), (None, 0, 1)):
            many = 300
            rows = counts(machine, many)[0] if goal is None else counts_to(machine, many, goal)[0]
            for number in (0, 1, rows // 3, rows // 2, rows - 2, rows - 1):
                if 0 <= number < rows:
                    row = row_at(machine, 0, goal, many, number)
                    self.assertEqual(number, number_of(machine, 0, goal, row))

    def test_each_row_of_small_machines(self):
        for machine, room, goal, many in questions(4):
            rows = rows_by_one(machine, room, goal, many)
            for row in rows_of(many):
                if row in rows:
                    self.assertEqual(repr(rows.index(row)), repr(number_of(machine, room, goal, row)))
                    self.assertEqual(row, row_at(machine, room, goal, many, number_of(machine, room, goal, row)))
                else:
                    self.refused(NoRow, number_of, machine, room, goal, row)


class NextRow(Asking):
    def test_ordinary(self):
        self.told("001", next_row, GOLDEN, 0, None, "000")
        self.told("100", next_row, GOLDEN, 0, None, "010")
        self.told(None, next_row, GOLDEN, 0, None, "101")
        self.told("100", next_row, GOLDEN, 0, 0, "010")
        self.told("101", next_row, GOLDEN, 0, 1, "001")
        self.told("1", next_row, BOTH, 0, 1, "0")

    def test_of_rows_that_are_none_of_them(self):
        self.told("100", next_row, GOLDEN, 0, None, "011")
        self.told(None, next_row, GOLDEN, 0, None, "110")
        self.told("001", next_row, GOLDEN, 0, 1, "000")
        self.told("010", next_row, GOLDEN, 1, None, "001")
        self.told(None, next_row, ((0, None),), 0, None, "0")
        self.told("10", next_row, ((None, 1), (1, None)), 0, None, "00")
        self.told("10", next_row, ((None, 1), (1, None)), 0, None, "01")

    def test_the_empty_row_has_none(self):
        self.told(None, next_row, GOLDEN, 0, None, "")
        self.told(None, next_row, GOLDEN, 0, 0, "")
        self.told(None, next_row, GOLDEN, 0, 1, "")

    def test_400_bits(self):
        self.told("0" * 399 + "1", next_row, STAIR, 0, None, "0" * 400)
        self.told("0" * 198 + "1" * 202, next_row, STAIR, 0, None, "0" * 199 + "1" * 201)
        self.told("0" * 199 + "1" * 201, next_row, STAIR, 0, 1, "0" * 199 + "1" + "10" * 100)
        self.told(None, next_row, STAIR, 0, None, "1" * 400)
        self.told("1" + "0" * 399, next_row, TRAP, 0, 2, "0" * 400)
        self.told(bin(3 ** 250 + 1)[2:].zfill(400), next_row, FULL, 5, None, bin(3 ** 250)[2:].zfill(400))
        self.told(None, next_row, FULL, 5, None, "1" * 400)

    def test_each_row_of_small_machines(self):
        for machine, room, goal, many in questions(4):
            rows = rows_by_one(machine, room, goal, many)
            for row in rows_of(many):
                wanted = next((other for other in rows if other > row), None)
                self.assertEqual(repr(wanted), repr(next_row(machine, room, goal, row)))

    def test_one_behind_the_other_they_are_all(self):
        machine = machine_of((1, 2, 1, 3, 3))
        for room, goal in ((0, None), (3, 0), (5, 5)):
            wanted = rows_by_one(machine, room, goal, 9)
            row, told = rows_of(9)[0], []
            if row in wanted:
                told.append(row)
            while row is not None:
                row = next_row(machine, room, goal, row)
                told.append(row)
            self.assertEqual(wanted + [None], told)
            self.assertEqual(wanted, rows_between(machine, room, goal, 9))


class ByTurns(Asking):
    def test_two_machines_by_turns(self):
        for _ in range(3):
            self.told([5, 3], counts, GOLDEN, 3)
            self.told([4, 1], counts, STAIR, 3)
            self.told([3, 2], counts_to, GOLDEN, 3, 0)
            self.told([1, 0], counts_to, STAIR, 3, 0)
            self.told(["001", "101"], rows_between, GOLDEN, 0, 1, 3)
            self.told(["001", "011", "111"], rows_between, STAIR, 0, 1, 3)
            self.told("101", row_at, GOLDEN, 0, 1, 3, 1)
            self.told("011", row_at, STAIR, 0, 1, 3, 1)
            self.told(1, number_of, GOLDEN, 0, 1, "101")
            self.told(2, number_of, STAIR, 0, 1, "111")
            self.told("101", next_row, GOLDEN, 0, 1, "001")
            self.told("011", next_row, STAIR, 0, 1, "001")


if __name__ == "__main__":
    unittest.main()
