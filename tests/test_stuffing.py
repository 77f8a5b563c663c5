import unittest

from asking import Asking, rows_of, rows_to
from runbound.errors import NoRow
from runbound.rows import runs
from runbound.stuffing import stuffed, unstuffed


def stuffed_by_words(row, most):
    told = ""
    for bit in row:
        told += bit
        if len(told) >= most and len(set(told[-most:])) == 1:
            told += "1" if bit == "0" else "0"
    return told


class Stuffed(Asking):
    def test_ordinary(self):
        self.told("00010", stuffed, "0000", 3)
        self.told("1110110", stuffed, "111110", 3)
        self.told("111110100", stuffed, "11111100", 5)

    def test_nothing_is_stuffed(self):
        for row, most in (("", 2), ("0", 2), ("01", 2), ("0101", 2), ("00", 3), ("0011", 3), ("0" * 399, 400)):
            self.told(row, stuffed, row, most)
            self.told(row, unstuffed, row, most)

    def test_it_begins_with_a_run_of_just_so_many(self):
        self.told("001", stuffed, "00", 2)
        self.told("0010", stuffed, "000", 2)
        self.told("000101", stuffed, "00001", 3)

    def test_it_ends_with_a_run_of_just_so_many(self):
        self.told("1001", stuffed, "100", 2)
        self.told("100001", stuffed, "10000", 4)
        self.told("0" * 400 + "1", stuffed, "0" * 400, 400)

    def test_put_bits_make_a_run_with_bits_of_the_row(self):
        self.told("001101", stuffed, "0011", 2)
        self.told("0001110", stuffed, "00011", 3)

    def test_as_the_words_say(self):
        for most in range(2, 6):
            for row in rows_to(10):
                told = stuffed(row, most)
                self.assertEqual(repr(stuffed_by_words(row, most)), repr(told))
                self.assertLessEqual(max([many for bit, many in runs(told)], default=0), most)
                self.assertEqual(repr(row), repr(unstuffed(told, most)))

    def test_400_bits(self):
        for row in ("0" * 400, "1" * 400, "0110" * 100, ("0" * 9 + "1") * 40):
            for most in (2, 3, 8, 400):
                told = stuffed(row, most)
                self.assertEqual(stuffed_by_words(row, most), told)
                self.told(row, unstuffed, told, most)


class Unstuffed(Asking):
    def test_ordinary(self):
        self.told("0000", unstuffed, "00010", 3)
        self.told("111110", unstuffed, "1110110", 3)
        self.told("0011", unstuffed, "001101", 2)

    def test_the_empty_row(self):
        for most in (2, 3, 400):
            self.told("", unstuffed, "", most)

    def test_a_run_that_is_too_long(self):
        for row in ("000", "0001", "01110", "0100010", "1" * 400):
            self.refused(NoRow, unstuffed, row, 2)
        self.refused(NoRow, unstuffed, "0" * 401, 400)

    def test_the_put_bit_is_missing_at_the_end(self):
        for row, most in (("00", 2), ("11", 2), ("0100", 2), ("000", 3), ("0010111", 3), ("0" * 400, 400)):
            self.refused(NoRow, unstuffed, row, most)
        self.told("0" * 400, unstuffed, "0" * 400 + "1", 400)

    def test_what_none_writes_is_refused(self):
        for most in (2, 3, 4, 5):
            made = {stuffed(row, most): row for row in rows_to(10)}
            for row in rows_to(10):
                if row in made:
                    self.assertEqual(repr(made[row]), repr(unstuffed(row, most)))
                else:
                    with self.assertRaises(NoRow) as caught:
                        unstuffed(row, most)
                    self.assertIs(NoRow, type(caught.exception))

    def test_no_two_rows_alike(self):
        for most in (2, 3):
            self.assertEqual(2 ** 9, len({stuffed(row, most) for row in rows_of(9)}))


if __name__ == "__main__":
    unittest.main()
