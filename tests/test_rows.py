import itertools
import unittest

from asking import Asking, rows_to
from runbound.rows import exchanged, row_by, runs, spread_of, sum_of, sums


class Runs(Asking):
    def test_ordinary(self):
        self.told([(0, 2), (1, 1), (0, 1), (1, 3)], runs, "0010111")
        self.told([(1, 1), (0, 1)], runs, "10")

    def test_the_empty_row_has_none(self):
        self.told([], runs, "")

    def test_a_bit_alone(self):
        self.told([(0, 1)], runs, "0")
        self.told([(1, 1)], runs, "1")

    def test_like_bits_alone(self):
        self.told([(0, 5)], runs, "00000")
        self.told([(1, 4)], runs, "1111")

    def test_400_bits(self):
        self.told([(0, 400)], runs, "0" * 400)
        self.told([(1, 1), (0, 1)] * 200, runs, "10" * 200)
        self.told([(0, 199), (1, 201)], runs, "0" * 199 + "1" * 201)

    def test_each_run_is_as_long_as_it_goes(self):
        for row in rows_to(9):
            wanted = [(int(bit), len(list(group))) for bit, group in itertools.groupby(row)]
            self.assertEqual(repr(wanted), repr(runs(row)))


class RowBy(Asking):
    def test_ordinary(self):
        self.told("0010111", row_by, [(0, 2), (1, 1), (0, 1), (1, 3)])

    def test_no_runs_make_the_empty_row(self):
        self.told("", row_by, [])
        self.told("", row_by, ())

    def test_neighbours_of_one_bit(self):
        self.told("00000", row_by, [(0, 2), (0, 3)])
        self.told("1110111", row_by, [(1, 1), (1, 2), (0, 1), (1, 3)])

    def test_a_tuple_of_runs(self):
        self.told("01110", row_by, ((0, 1), (1, 3), (0, 1)))

    def test_400_bits(self):
        self.told("1" * 400, row_by, [(1, 400)])
        self.told("01" * 200, row_by, [(0, 1), (1, 1)] * 200)

    def test_it_undoes_runs(self):
        for row in rows_to(9):
            self.assertEqual(row, row_by(runs(row)))

    def test_the_list_handed_in_is_not_kept(self):
        handed = [(0, 1)]
        self.assertEqual("0", row_by(handed))
        handed.append((1, 2))
        self.assertEqual("011", row_by(handed))


class Exchanged(Asking):
    def test_ordinary(self):
        self.told("1101000", exchanged, "0010111")

    def test_edges(self):
        self.told("", exchanged, "")
        self.told("1", exchanged, "0")
        self.told("0", exchanged, "1")
        self.told("1" * 400, exchanged, "0" * 400)
        self.told("01" * 200, exchanged, "10" * 200)

    def test_each_bit_becomes_the_other_and_back(self):
        for row in rows_to(8):
            other = exchanged(row)
            self.assertEqual([(a, b) for a, b in zip(row, other)], [(a, str(1 - int(a))) for a in row])
            self.assertEqual(len(row), len(other))
            self.assertEqual(row, exchanged(other))


class Sums(Asking):
    def test_sum_of(self):
        self.told(1, sum_of, "0010111")
        self.told(-1, sum_of, "0")
        self.told(1, sum_of, "1")
        self.told(0, sum_of, "0110")

    def test_sum_of_edges(self):
        self.told(0, sum_of, "")
        self.told(-400, sum_of, "0" * 400)
        self.told(400, sum_of, "1" * 400)
        self.told(0, sum_of, "01" * 200)

    def test_sums(self):
        self.told([0, -1, -2, -1, -2, -1, 0, 1], sums, "0010111")
        self.told([0, 1, 0, -1], sums, "100")

    def test_sums_edges(self):
        self.told([0], sums, "")
        self.told([0, -1], sums, "0")
        self.told([0, 1], sums, "1")
        self.told(list(range(401)), sums, "1" * 400)
        self.told(list(range(0, -401, -1)), sums, "0" * 400)

    def test_spread_of(self):
        self.told(3, spread_of, "0010111")
        self.told(2, spread_of, "0011")
        self.told(2, spread_of, "100")
        self.told(1, spread_of, "0101")

    def test_spread_of_edges(self):
        self.told(0, spread_of, "")
        self.told(1, spread_of, "0")
        self.told(1, spread_of, "1")
        self.told(400, spread_of, "0" * 400)
        self.told(400, spread_of, "1" * 400)
        self.told(200, spread_of, "0" * 200 + "1" * 200)
        self.told(1, spread_of, "10" * 200)

    def test_all_short_rows(self):
        for row in rows_to(9):
            levels = [sum(1 if bit == "1" else -1 for bit in row[:many]) for many in range(len(row) + 1)]
            self.assertEqual(repr(levels), repr(sums(row)))
            self.assertEqual(repr(levels[-1]), repr(sum_of(row)))
            self.assertEqual(repr(max(levels) - min(levels)), repr(spread_of(row)))

    def test_the_spread_is_the_greatest_sum_of_a_row_within(self):
        for row in rows_to(7):
            within = [abs(sum_of(row[a:b])) for a in range(len(row) + 1) for b in range(a, len(row) + 1)]
            self.assertEqual(max(within), spread_of(row))


if __name__ == "__main__":
    unittest.main()
