import itertools
import unittest

from asking import Asking, rows_of, rows_to
from runbound.bounds import machine_of
from runbound.errors import BadBits, NoWindow
from runbound.kinds import lessened
from runbound.rows import exchanged
from runbound.splitting import split_writer
from runbound.weights import enough
from runbound.windows import read_by, reader_of, spoilt, window_for
from runbound.writers import written

# p is 1, q is 2 in all of these but WIDE.
# Each row tells its door's number, wherever it stands.
AT_ONCE = ((("00", 0), ("01", 1)), (("00", 0), ("01", 1)))
# The row 01 is the door 0 of room 1 and the door 1 of room 0; the row ahead of it tells which room it is.
BACK = ((("00", 0), ("01", 1)), (("01", 1), ("10", 0)))
# From room 0 the next row tells the door.
LATER = ((("00", 1), ("00", 2)), (("01", 0), ("10", 0)), (("11", 0), ("00", 0)))
# Doors that nothing tells.
NEVER = ((("00", 0), ("00", 0)),)
WIDE = (
    (("000", 0), ("001", 1), ("001", 0), ("111", 1)),
    (("010", 0), ("010", 1), ("100", 1), ("011", 0)),
)
# The row ahead tells the door, and the row behind does, too.
EITHER = [
    ((("011", 2), ("000", 1)), (("001", 0), ("101", 2)), (("101", 0), ("001", 1))),
    ((("001", 1), ("000", 0)), (("011", 1), ("001", 2)), (("100", 0), ("101", 1))),
]
SMALL = [AT_ONCE, BACK, LATER, NEVER]
LEVELS = lessened(machine_of((1, 4, 1, 4, 3)))[0]
SHORT = lessened(machine_of((1, 2, 1, 1, None)))[0]


def writers_of(many, rows):
    """All writers of so many rooms with these rows, p being 1."""
    doors = list(itertools.product(rows, range(many)))
    return itertools.product(itertools.product(doors, repeat=2), repeat=many)


def shifting(many, ahead):
    """A writer of 2 ** many rooms whose rows of 1 bit tell the bit that goes in, or the one so many blocks ahead."""
    rooms = []
    for bits in rows_of(many):
        doors = []
        for bit in "01":
            seen = bits + bit
            doors.append((seen[ahead], int(seen[1:], 2)))
        rooms.append(tuple(doors))
    return tuple(rooms)


def ways_by_one(writer, many):
    """The list of all ways through so many doors from any room: (rows, numbers of the doors)."""
    told = []
    for room, numbers in itertools.product(range(len(writer)), itertools.product(range(len(writer[0])), repeat=many)):
        here, rows = room, []
        for number in numbers:
            row, here = writer[here][number]
            rows.append(row)
        told.append(("".join(rows), numbers))
    return told


def numbers_by_row(writer, back, ahead):
    """The dict of each row of a window and the set of the numbers of its door number back."""
    found = {}
    for row, numbers in ways_by_one(writer, back + 1 + ahead):
        found.setdefault(row, set()).add(numbers[back])
    return found


def window_by_ways(writer, most):
    for both in range(most + 1):
        for back in range(both + 1):
            if all(len(numbers) == 1 for numbers in numbers_by_row(writer, back, both - back).values()):
                return (back, both - back)
    return None


def reader_by_ways(writer, p, back, ahead):
    """The rising list of pairs, None where one row has two readings."""
    found = numbers_by_row(writer, back, ahead)
    if any(len(numbers) > 1 for numbers in found.values()):
        return None
    return sorted((row, format(numbers.pop(), f"0{p}b")) for row, numbers in found.items())


class WindowFor(Asking):
    def test_ordinary(self):
        self.told((0, 0), window_for, AT_ONCE, 4)
        self.told((1, 0), window_for, BACK, 4)
        self.told(None, window_for, NEVER, 4)

    def test_none_up_to_most(self):
        self.told(None, window_for, BACK, 0)
        self.told((1, 0), window_for, BACK, 1)
        for most in range(5):
            self.told(None, window_for, NEVER, most)

    def test_windows_of_one_block_and_of_five(self):
        self.told((0, 0), window_for, AT_ONCE, 0)
        for many in (1, 2, 3, 4):
            # The row is told so many doors behind the bit.
            self.told((0, many), window_for, shifting(many, 0), 4)
            self.told(None, window_for, shifting(many, 0), many - 1)
            self.told((0, 0), window_for, shifting(many, many), 4)

    def test_of_several_of_one_sum_the_least_back(self):
        for writer in EITHER:
            self.refused(NoWindow, reader_of, writer, 1, 0, 0)
            for back, ahead in ((0, 1), (1, 0)):
                self.told(reader_by_ways(writer, 1, back, ahead), reader_of, writer, 1, back, ahead)
            for most in (1, 2, 4):
                self.told((0, 1), window_for, writer, most)

    def test_all_ways_of_small_writers(self):
        for writer in SMALL:
            for most in range(5):
                self.told(window_by_ways(writer, most), window_for, writer, most)
        for writer in writers_of(2, ("0", "1")):
            self.assertEqual(repr(window_by_ways(writer, 3)), repr(window_for(writer, 3)), writer)
        for writer in list(writers_of(3, ("0", "1")))[::307]:
            self.assertEqual(repr(window_by_ways(writer, 4)), repr(window_for(writer, 4)), writer)
        for writer in list(writers_of(2, ("00", "01", "11")))[::5]:
            self.assertEqual(repr(window_by_ways(writer, 3)), repr(window_for(writer, 3)), writer)

    def test_of_four_doors(self):
        for most in range(3):
            self.told(window_by_ways(WIDE, most), window_for, WIDE, most)

    def test_split_writers(self):
        for machine, p, q, weights in ((LEVELS, 4, 6, [1, 2, 2, 1]), (SHORT, 3, 8, [2, 1, 2])):
            writer, under, ahead = split_writer(machine, p, q, weights)
            wanted = window_by_ways(writer, 1)
            self.told(wanted, window_for, writer, 1)
            if window_for(writer, 4) is not None:
                back, later = window_for(writer, 4)
                self.assertGreaterEqual(later, ahead if back == 0 else 0)

    def test_24_rooms_of_16_doors(self):
        plain = tuple(
            tuple((format(door * 16 + room % 16, "08b"), (room * 5 + door) % 24) for door in range(16))
            for room in range(24)
        )
        self.told((0, 0), window_for, plain, 4)
        alike = tuple(tuple(("00000000", (room * 5 + door) % 24) for door in range(16)) for room in range(24))
        self.told(None, window_for, alike, 4)


class ReaderOf(Asking):
    def test_ordinary(self):
        self.told([("00", "0"), ("01", "1")], reader_of, AT_ONCE, 1, 0, 0)
        self.told([("0000", "0"), ("0001", "1"), ("0101", "0"), ("0110", "1"), ("1000", "0"), ("1001", "1")],
                  reader_of, BACK, 1, 1, 0)

    def test_a_row_that_had_two(self):
        self.refused(NoWindow, reader_of, BACK, 1, 0, 0)
        self.refused(NoWindow, reader_of, LATER, 1, 0, 0)
        for back, ahead in itertools.product(range(3), repeat=2):
            self.refused(NoWindow, reader_of, NEVER, 1, back, ahead)

    def test_one_row_of_many_had_two(self):
        # Only the row 11 leaves it open, and only where it is the last one.
        writer = ((("00", 0), ("11", 1)), (("01", 0), ("11", 2)), (("10", 0), ("00", 0)))
        for back, ahead in itertools.product(range(3), repeat=2):
            wanted = reader_by_ways(writer, 1, back, ahead)
            if wanted is None:
                self.refused(NoWindow, reader_of, writer, 1, back, ahead)
            else:
                self.told(wanted, reader_of, writer, 1, back, ahead)

    def test_several_ways_of_one_row_with_the_same_bits(self):
        # From either room the same rows, and so each pair but once.
        twins = ((("0", 0), ("1", 1)), (("0", 1), ("1", 0)))
        self.told([("0", "0"), ("1", "1")], reader_of, twins, 1, 0, 0)
        self.told([("00", "0"), ("01", "0"), ("10", "1"), ("11", "1")], reader_of, twins, 1, 0, 1)
        self.told([("00", "0"), ("01", "1"), ("10", "0"), ("11", "1")], reader_of, twins, 1, 1, 0)

    def test_all_ways_of_small_writers(self):
        writers = SMALL + list(writers_of(2, ("0", "1"))) + list(writers_of(3, ("0", "1")))[::307]
        for writer in writers:
            for back, ahead in ((0, 0), (0, 1), (1, 0), (1, 1), (0, 2), (2, 0)):
                wanted = reader_by_ways(writer, 1, back, ahead)
                if wanted is None:
                    with self.assertRaises(NoWindow):
                        reader_of(writer, 1, back, ahead)
                else:
                    self.assertEqual(repr(wanted), repr(reader_of(writer, 1, back, ahead)))

    def test_of_four_doors(self):
        four = tuple(
            tuple((format(door + 4 * room, "03b"), (door + room) % 2) for door in range(4)) for room in range(2)
        )
        for back, ahead in ((0, 0), (1, 0), (1, 1)):
            self.told(reader_by_ways(four, 2, back, ahead), reader_of, four, 2, back, ahead)

    def test_windows_of_five_blocks(self):
        self.told(reader_by_ways(shifting(4, 0), 1, 0, 4), reader_of, shifting(4, 0), 1, 0, 4)
        self.told(reader_by_ways(BACK, 1, 3, 1), reader_of, BACK, 1, 3, 1)
        self.told(reader_by_ways(BACK, 1, 4, 0), reader_of, BACK, 1, 4, 0)

    def test_windows_that_tell_nothing_cost_little(self):
        alike = tuple(tuple((format(door, "08b"), (room * 5 + door) % 24) for door in range(16)) for room in range(24))
        crossed = alike[:23] + (tuple((row, end) for row, end in reversed(alike[23])),)
        self.refused(NoWindow, reader_of, crossed, 4, 2, 2)

    def test_more_ways_than_rows(self):
        # From each of 24 rooms there are the same 2 ** 5 rows, by 24 * 2 ** 5 ways.
        same = tuple((("0", (room + 1) % 24), ("1", (room * 7 + 5) % 24)) for room in range(24))
        self.told([(row, row[2]) for row in rows_of(5)], reader_of, same, 1, 2, 2)


class ReadBy(Asking):
    PAIRS = [("0000", "0"), ("0001", "1"), ("0101", "0"), ("0110", "1"), ("1000", "0"), ("1001", "1")]

    def test_ordinary(self):
        row, end = written(BACK, 1, 0, "0110100")
        self.told("110100", read_by, self.PAIRS, 1, 2, 1, 0, row)
        self.told("110100", read_by, tuple(self.PAIRS), 1, 2, 1, 0, row)
        self.told("01", read_by, [("00", "0"), ("01", "1")], 1, 2, 0, 0, "0001")

    def test_too_few_blocks(self):
        self.told("", read_by, self.PAIRS, 1, 2, 1, 0, "")
        self.told("", read_by, self.PAIRS, 1, 2, 1, 0, "00")
        self.told("0", read_by, self.PAIRS, 1, 2, 1, 0, "0000")
        self.told("", read_by, [], 1, 2, 2, 2, "00" * 4)
        self.told("0", read_by, [], 1, 2, 2, 2, "00" * 5)
        self.told("", read_by, [], 2, 1, 4, 0, "0000")
        self.told("00", read_by, [], 2, 1, 4, 0, "00000")

    def test_pairs_that_have_no_such_row(self):
        self.told("0", read_by, self.PAIRS, 1, 2, 1, 0, "1111")
        self.told("000000", read_by, [], 3, 2, 0, 0, "0110")
        self.told("111000", read_by, [("01", "111")], 3, 2, 0, 0, "0110")
        self.told("01", read_by, [("00", "0"), ("11", "1")], 1, 2, 0, 0, "0111")

    def test_no_multiple(self):
        for row in ("0", "000", "00000", "1" * 399):
            self.refused(BadBits, read_by, self.PAIRS, 1, 2, 1, 0, row)
        self.refused(BadBits, read_by, [], 1, 8, 0, 0, "0" * 7)
        self.told("0", read_by, [], 1, 8, 0, 0, "0" * 8)

    def test_which_block_is_told(self):
        # Three blocks, and the bits of the middle one: back and ahead are not the same.
        pairs = [("000", "0"), ("001", "1"), ("011", "0"), ("111", "1"), ("110", "1"), ("100", "0")]
        row = "0001111000"
        for back, ahead in ((0, 2), (1, 1), (2, 0)):
            wanted = "".join(dict(pairs)[row[at:at + 3]] for at in range(8))
            self.told(wanted, read_by, pairs, 1, 1, back, ahead, row)

    def test_what_was_written_is_read(self):
        for writer in (AT_ONCE, BACK, shifting(2, 0), shifting(3, 1)):
            q = len(writer[0][0][0])
            back, ahead = window_for(writer, 4)
            pairs = reader_of(writer, 1, back, ahead)
            for room in range(len(writer)):
                for bits in rows_to(8):
                    row, end = written(writer, 1, room, bits)
                    wanted = bits[back:len(bits) - ahead] if len(bits) > back + ahead else ""
                    self.assertEqual(wanted, read_by(pairs, 1, q, back, ahead, row))

    def test_400_bits(self):
        bits = "0110100110010110" * 25
        writer = shifting(4, 0)
        row, end = written(writer, 1, 5, bits)
        pairs = reader_of(writer, 1, 0, 4)
        self.told(bits[:396], read_by, pairs, 1, 1, 0, 4, row)


class Spoilt(Asking):
    def test_ordinary(self):
        pairs = [("00", "0"), ("01", "1")]
        self.told(1, spoilt, pairs, 1, 2, 0, 0, "0001", 1)
        # The row 10 has no pair, and so is read as a nought.
        self.told(0, spoilt, pairs, 1, 2, 0, 0, "0001", 0)
        self.told(1, spoilt, pairs, 1, 2, 0, 0, "0001", 2)
        self.told(1, spoilt, pairs, 1, 2, 0, 0, "0001", 3)

    def test_a_place_in_no_window(self):
        self.told(0, spoilt, [("0000", "1")], 1, 2, 1, 0, "00", 0)
        self.told(0, spoilt, [], 1, 1, 2, 2, "0000", 3)
        self.told(1, spoilt, [("0000", "1")], 1, 2, 1, 0, "0000", 0)

    def test_all_windows_of_a_place(self):
        # All windows of the row are read as ones, and each one with a wrong bit as noughts.
        for p, width, many in itertools.product((1, 3), (1, 2, 5), (1, 4, 9)):
            pairs = [("0" * width, "1" * p)]
            for place in range(many):
                windows = [at for at in range(many - width + 1) if at <= place < at + width]
                for back in range(width):
                    self.told(p * len(windows), spoilt, pairs, p, 1, back, width - 1 - back, "0" * many, place)

    def test_by_reading_twice(self):
        pairs = reader_of(BACK, 1, 1, 0)
        for row in rows_of(8):
            for place in range(8):
                wrong = row[:place] + exchanged(row[place]) + row[place + 1:]
                one, other = (read_by(pairs, 1, 2, 1, 0, each) for each in (row, wrong))
                wanted = sum(a != b for a, b in zip(one, other))
                self.assertEqual(repr(wanted), repr(spoilt(pairs, 1, 2, 1, 0, row, place)))

    def test_never_more_than_p_for_each_block_of_the_window(self):
        for writer, p, q in ((BACK, 1, 2), (shifting(3, 0), 1, 1), (shifting(4, 0), 1, 1)):
            back, ahead = window_for(writer, 4)
            pairs = reader_of(writer, p, back, ahead)
            most = 0
            for row in rows_of(10):
                for place in range(10):
                    most = max(most, spoilt(pairs, p, q, back, ahead, row, place))
            self.assertLessEqual(most, p * (back + 1 + ahead))
            self.assertGreater(most, 0)

    def test_of_split_writers(self):
        writer, under, later = split_writer(LEVELS, 4, 6, [1, 2, 2, 1])
        back, ahead = window_for(writer, 4)
        pairs = reader_of(writer, 4, back, ahead)
        row, end = written(writer, 4, 0, "011010011001" * 8)
        for place in range(0, len(row), 5):
            self.assertLessEqual(spoilt(pairs, 4, 6, back, ahead, row, place), 4 * (back + 1 + ahead))

    def test_400_bits(self):
        self.told(5, spoilt, [("0" * 5, "1")], 1, 1, 2, 2, "0" * 400, 200)
        self.told(1, spoilt, [("0" * 5, "1")], 1, 1, 2, 2, "0" * 400, 0)
        self.told(1, spoilt, [("0" * 5, "1")], 1, 1, 2, 2, "0" * 400, 399)


class ByTurns(Asking):
    def test_two_writers_by_turns(self):
        for _ in range(3):
            self.told((0, 0), window_for, AT_ONCE, 4)
            self.told((1, 0), window_for, BACK, 4)
            self.told([("00", "0"), ("01", "1")], reader_of, AT_ONCE, 1, 0, 0)
            self.told(ReadBy.PAIRS, reader_of, BACK, 1, 1, 0)

    def test_changed_pairs_change_no_later_answer(self):
        pairs = reader_of(BACK, 1, 1, 0)
        self.told("1", read_by, pairs, 1, 2, 1, 0, "0001")
        pairs[1] = ("0001", "0")
        self.told("0", read_by, pairs, 1, 2, 1, 0, "0001")
        self.told(ReadBy.PAIRS, reader_of, BACK, 1, 1, 0)


class Enough(unittest.TestCase):
    def test_the_weights_used_here(self):
        self.assertEqual([1, 2, 2, 1], enough(LEVELS, 4, 6, 2))
        self.assertEqual([2, 1, 2], enough(SHORT, 3, 8, 2))


if __name__ == "__main__":
    unittest.main()
