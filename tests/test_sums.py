import itertools
import math
import unittest

from asking import Asking, rows_of, rows_to
from runbound.errors import BadBits, NoNumber, NoRow
from runbound.rows import exchanged, sum_of, sums
from runbound.sums import (
    balance_read, balance_written, balanced_at, balanced_count, balanced_number, flags_read, flags_written, head_for,
    turned, turning,
)

LONG = "0110100110010110" * 25


def balanced(many):
    """The rising list of the balanced rows of so many bits, gone through one by one."""
    return [row for row in rows_of(many) if row.count("0") == row.count("1")]


def turning_by_all(row):
    told = [many for many in range(len(row) + 1) if sum_of(exchanged(row[:many]) + row[many:]) == 0]
    return told[0]


def flags_by_words(row, many):
    told = ""
    for at in range(0, len(row), many):
        block = row[at:at + many]
        plain, other = "0" + block, "1" + exchanged(block)
        told += min((abs(sum_of(told + each)), order, each) for order, each in enumerate((plain, other)))[2]
    return told


class Turned(Asking):
    def test_ordinary(self):
        self.told("1010", turned, "0110", 2)
        self.told("1110", turned, "0010", 2)
        self.told("1101", turned, "0010", 4)

    def test_by_0_and_by_the_last(self):
        self.told("0010", turned, "0010", 0)
        self.told("1100", turned, "0010", 3)
        self.told("", turned, "", 0)
        self.told("1", turned, "0", 1)
        self.told("0", turned, "0", 0)

    def test_all_short_rows(self):
        for row in rows_to(6):
            for many in range(len(row) + 1):
                wanted = "".join(str(int(bit) ^ (at < many)) for at, bit in enumerate(row))
                self.assertEqual(repr(wanted), repr(turned(row, many)))
                self.assertEqual(row, turned(turned(row, many), many))

    def test_400_bits(self):
        self.told("1" * 399 + "0", turned, "0" * 400, 399)


class Turning(Asking):
    def test_ordinary(self):
        self.told(0, turning, "0110")
        self.told(2, turning, "0000")
        self.told(1, turning, "0010")
        self.told(1, turning, "1110")

    def test_the_empty_row(self):
        self.told(0, turning, "")

    def test_the_last_number_below_the_number_of_bits(self):
        self.told(1, turning, "00")
        self.told(1, turning, "11")
        self.told(3, turning, "1000")
        self.told(5, turning, "101000")
        self.told(399, turning, "10" * 199 + "00")
        self.told(399, turning, "01" * 199 + "11")

    def test_of_several_the_least(self):
        # Turned by 2, by 4 and by 6 it is balanced.
        self.told(2, turning, "00" "01" "01" "00")
        self.assertEqual(0, sum_of(turned("00010100", 4)))

    def test_all_short_rows(self):
        for many in range(0, 11, 2):
            for row in rows_of(many):
                told = turning(row)
                self.assertEqual(repr(turning_by_all(row)), repr(told))
                self.assertTrue(told < many or many == told == 0)

    def test_400_bits(self):
        self.told(200, turning, "0" * 400)
        self.told(200, turning, "1" * 400)
        self.told(0, turning, LONG)


class BalancedCount(Asking):
    def test_ordinary(self):
        for many, wanted in ((0, 1), (2, 2), (4, 6), (6, 20), (8, 70)):
            self.told(wanted, balanced_count, many)

    def test_odd_numbers(self):
        for many in (1, 3, 5, 399):
            self.told(0, balanced_count, many)

    def test_gone_through_one_by_one(self):
        for many in range(13):
            self.told(len(balanced(many)), balanced_count, many)

    def test_400_bits(self):
        self.told(math.comb(400, 200), balanced_count, 400)
        for many in range(0, 401, 2):
            self.assertEqual(math.comb(many, many // 2), balanced_count(many))


class BalancedAt(Asking):
    def test_ordinary(self):
        for number, row in enumerate(("0011", "0101", "0110", "1001", "1010", "1100")):
            self.told(row, balanced_at, 4, number)
            self.told(number, balanced_number, row)

    def test_no_bits(self):
        self.told("", balanced_at, 0, 0)
        self.refused(NoNumber, balanced_at, 0, 1)
        self.refused(NoNumber, balanced_at, 0, -1)

    def test_numbers_below_0_and_beyond_the_last(self):
        for number in (-1, -6, 6, 7, 10 ** 40, -(10 ** 40)):
            self.refused(NoNumber, balanced_at, 4, number)
        self.refused(NoNumber, balanced_at, 400, math.comb(400, 200))

    def test_odd_numbers_of_bits(self):
        for many, number in itertools.product((1, 3, 399), (0, 1, -1)):
            self.refused(NoNumber, balanced_at, many, number)

    def test_gone_through_one_by_one(self):
        for many in range(0, 13, 2):
            for number, row in enumerate(balanced(many)):
                self.assertEqual(repr(row), repr(balanced_at(many, number)))
                self.assertEqual(repr(number), repr(balanced_number(row)))

    def test_400_bits(self):
        last = math.comb(400, 200) - 1
        self.told("0" * 200 + "1" * 200, balanced_at, 400, 0)
        self.told("1" * 200 + "0" * 200, balanced_at, 400, last)
        self.told("0" + "1" * 200 + "0" * 199, balanced_at, 400, last // 2)
        self.told("1" + "0" * 200 + "1" * 199, balanced_at, 400, last // 2 + 1)
        for number in (1, last // 3, last - 1, 7 ** 100):
            row = balanced_at(400, number)
            self.assertEqual((400, 0), (len(row), sum_of(row)))
            self.told(number, balanced_number, row)


class BalancedNumber(Asking):
    def test_the_empty_row(self):
        self.told(0, balanced_number, "")

    def test_rows_that_are_not_balanced(self):
        for row in ("0", "1", "00", "11", "001", "0111", "0" * 400, "01" * 199 + "00"):
            self.refused(NoRow, balanced_number, row)
        for row in rows_to(7):
            if sum_of(row):
                self.refused(NoRow, balanced_number, row)

    def test_400_bits(self):
        self.told(0, balanced_number, "0" * 200 + "1" * 200)
        self.told(math.comb(400, 200) - 1, balanced_number, "1" * 200 + "0" * 200)
        self.assertEqual(LONG, balanced_at(400, balanced_number(LONG)))


class HeadFor(Asking):
    def test_ordinary(self):
        for many, wanted in ((1, 0), (2, 2), (3, 4), (6, 4), (7, 6), (20, 6), (21, 8), (70, 8), (71, 10), (400, 12)):
            self.told(wanted, head_for, many)

    def test_it_is_the_least(self):
        for many in range(1, 401):
            told = head_for(many)
            self.assertEqual(0, told % 2)
            self.assertGreaterEqual(balanced_count(told), many)
            if told:
                self.assertLess(balanced_count(told - 2), many)

    def test_great_numbers(self):
        self.told(400, head_for, math.comb(400, 200))
        self.told(402, head_for, math.comb(400, 200) + 1)


class BalanceWritten(Asking):
    def test_ordinary(self):
        # Two numbers of turning have a head of 2 bits, four have one of 4.
        self.told("0101", balance_written, "01")
        self.told("1010", balance_written, "00")
        self.told("1001", balance_written, "11")
        self.told("0110" "1100", balance_written, "0000")
        self.told("0011" "0110", balance_written, "0110")

    def test_all_short_rows(self):
        for many in (2, 4, 6, 8, 10):
            seen = set()
            for row in rows_of(many):
                told = balance_written(row)
                turns = turning_by_all(row)
                head = balanced(head_for(many))[turns]
                self.assertEqual(repr(head + turned(row, turns)), repr(told))
                self.assertEqual(0, sum_of(told))
                self.assertEqual(repr(row), repr(balance_read(told, many)))
                seen.add(told)
            self.assertEqual(2 ** many, len(seen))

    def test_400_bits(self):
        for row in ("0" * 400, "1" * 400, LONG, "10" * 199 + "00"):
            told = balance_written(row)
            self.assertEqual((412, 0), (len(told), sum_of(told)))
            self.told(row, balance_read, told, 400)


class BalanceRead(Asking):
    def test_ordinary(self):
        self.told("01", balance_read, "0101", 2)
        self.told("00", balance_read, "1010", 2)
        self.told("0000", balance_read, "01101100", 4)

    def test_what_none_writes_is_refused(self):
        for many in (2, 4, 6):
            made = {balance_written(row): row for row in rows_of(many)}
            for row in rows_of(many + head_for(many)):
                if row in made:
                    self.assertEqual(repr(made[row]), repr(balance_read(row, many)))
                else:
                    with self.assertRaises(NoRow) as caught:
                        balance_read(row, many)
                    self.assertIs(NoRow, type(caught.exception))

    def test_a_head_of_another_number(self):
        # Turned back by 4 it is balanced as well, but 2 is the least.
        row = "00010100"
        self.assertEqual(2, turning(row))
        for number in range(8):
            told = balanced_at(6, number) + turned(row, number)
            if number == 2:
                self.told(row, balance_read, told, 8)
            else:
                self.refused(NoRow, balance_read, told, 8)
        # Numbers that no turning tells: 4 and 5 of a row of 4 bits, 8 to 19 of one of 8.
        for number in (4, 5):
            self.refused(NoRow, balance_read, balanced_at(4, number) + "0011", 4)
        for number in range(8, 20):
            self.refused(NoRow, balance_read, balanced_at(6, number) + "00110011", 8)

    def test_a_head_or_a_row_that_is_not_balanced(self):
        self.refused(NoRow, balance_read, "0001" "0011", 4)
        self.refused(NoRow, balance_read, "0011" "0001", 4)
        self.refused(NoRow, balance_read, "0001" "0111", 4)

    def test_rows_of_another_number_of_bits(self):
        written = balance_written("0110")
        for row in ("", "0", "01", written[:-1], written[:-2], written + "0", written + "01", "01" + written):
            self.refused(NoRow, balance_read, row, 4)
        for many in (2, 6, 8, 400):
            self.refused(NoRow, balance_read, written, many)


class FlagsWritten(Asking):
    def test_ordinary(self):
        self.told("010", flags_written, "10", 2)
        self.told("0001" "1110", flags_written, "001001", 3)

    def test_the_empty_row(self):
        for many in (1, 2, 400):
            self.told("", flags_written, "", many)

    def test_both_as_near(self):
        # From 0 both are as near always; also where a block's own sum is 0.
        self.told("01", flags_written, "1", 1)
        self.told("00", flags_written, "0", 1)
        self.told("0111", flags_written, "111", 3)
        self.told("0000" "0011", flags_written, "000" "011", 3)
        self.told("0000" "0101", flags_written, "000" "101", 3)

    def test_blocks_of_one_bit(self):
        self.told("00" "11" "00", flags_written, "000", 1)
        self.told("01" "01" "00" "01", flags_written, "1101", 1)

    def test_no_multiple(self):
        for row, many in (("0", 2), ("000", 2), ("01", 3), ("0" * 399, 400), ("0" * 401, 400)):
            self.refused(BadBits, flags_written, row, many)

    def test_as_the_words_say(self):
        for many in (1, 2, 3, 4):
            for blocks in range(4):
                for row in rows_of(many * blocks)[::3 if many * blocks > 8 else 1]:
                    told = flags_written(row, many)
                    self.assertEqual(repr(flags_by_words(row, many)), repr(told))
                    self.assertEqual(repr(row), repr(flags_read(told, many)))

    def test_sums_stay_near(self):
        for many in (1, 2, 3, 5, 8, 20):
            for row in ("1" * 400, "0" * 400, LONG, "1110" * 100, ("0" * 30 + "1" * 10) * 10):
                row = row[:len(row) // many * many]
                told = flags_written(row, many)
                for at, level in enumerate(sums(told)):
                    if at % (many + 1) == 0:
                        self.assertLessEqual(abs(level), many + 1)
                self.told(row, flags_read, told, many)


class FlagsRead(Asking):
    def test_ordinary(self):
        self.told("10", flags_read, "010", 2)
        self.told("001001", flags_read, "0001" "1110", 3)
        self.told("", flags_read, "", 3)

    def test_whether_or_not_it_was_nearer(self):
        self.told("1", flags_read, "10", 1)
        self.told("0", flags_read, "11", 1)
        self.told("000000", flags_read, "0000" "0000", 3)
        self.told("111111", flags_read, "1000" "1000", 3)
        for row in rows_of(6):
            wanted = "".join(exchanged(row[at + 1:at + 3]) if row[at] == "1" else row[at + 1:at + 3] for at in (0, 3))
            self.told(wanted, flags_read, row, 2)

    def test_no_multiple(self):
        for row, many in (("0", 1), ("01", 2), ("0000", 2), ("0" * 400, 400), ("0" * 402, 400)):
            self.refused(BadBits, flags_read, row, many)
        self.told("0" * 400, flags_read, "0" * 401, 400)


if __name__ == "__main__":
    unittest.main()
