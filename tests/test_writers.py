import itertools
import re
import unittest

from asking import Asking, changed, deep_things, rows_of, rows_to
from runbound.errors import BadBits
from runbound.writers import is_writer, look_ahead, read_all, surely, written

# p is 1, q is 2 in all of these but WIDE.
# Each row tells its door.
AT_ONCE = ((("00", 0), ("01", 1)), (("10", 0), ("11", 1)))
# From room 0 the next row tells the door; from rooms 1 and 2 each row does.
LATER = ((("00", 1), ("00", 2)), (("01", 0), ("10", 0)), (("11", 0), ("00", 0)))
# Both doors are wholly alike.
NEVER = ((("00", 0), ("00", 0)),)
# The ways may go on alike for ever, though rows can tell the door.
MAYBE_NEVER = ((("00", 1), ("00", 2)), (("01", 1), ("10", 0)), (("01", 2), ("11", 0)))
# Unlike doors that come together in one room.
TOGETHER = ((("00", 1), ("00", 1)), (("01", 0), ("10", 0)))
# Two bits for each block of three; some doors' rows are alike.
WIDE = (
    (("000", 0), ("001", 1), ("001", 0), ("111", 1)),
    (("010", 0), ("010", 1), ("100", 1), ("011", 0)),
)
SMALL = [AT_ONCE, LATER, NEVER, MAYBE_NEVER, TOGETHER]


def writers_of(many, rows, p=1):
    """All writers of so many rooms with these rows."""
    doors = list(itertools.product(rows, range(many)))
    return itertools.product(itertools.product(doors, repeat=2 ** p), repeat=many)


def is_writer_by_words(thing, p, q):
    if type(thing) is not tuple or not thing:
        return False
    for room in thing:
        if type(room) is not tuple or len(room) != 2 ** p:
            return False
        for door in room:
            if type(door) is not tuple or len(door) != 2 or type(door[0]) is not str or type(door[1]) is not int:
                return False
            if not re.fullmatch("[01]{%d}" % q, door[0]) or not 0 <= door[1] < len(thing):
                return False
    return True


def readings(writer, p, q, room, row):
    """All bits of as many blocks that are written as this row, gone through one by one."""
    if len(row) % q:
        return []
    return [bits for bits in rows_of(len(row) // q * p) if written(writer, p, room, bits)[0] == row]


def beginning(rows):
    """The longest row with which all of these begin."""
    return max((row for row in rows_to(len(rows[0])) if all(other.startswith(row) for other in rows)), key=len)


def ways_by_one(writer, room, many):
    """The list of all ways through so many doors from a room: (number of the first door, rows)."""
    told = []
    for numbers in itertools.product(range(len(writer[0])), repeat=many):
        here, rows = room, []
        for number in numbers:
            row, here = writer[here][number]
            rows.append(row)
        told.append((numbers[0], tuple(rows)))
    return told


def look_ahead_by_ways(writer, most):
    for n in range(most + 1):
        firsts = {}
        for room in range(len(writer)):
            for first, rows in ways_by_one(writer, room, n + 1):
                firsts.setdefault((room, rows), set()).add(first)
        if all(len(numbers) == 1 for numbers in firsts.values()):
            return n
    return None


class IsWriter(Asking):
    def test_writers(self):
        for writer in SMALL:
            self.told(True, is_writer, writer, 1, 2)
        self.told(True, is_writer, WIDE, 2, 3)
        self.told(True, is_writer, ((("0", 0), ("0", 0)),), 1, 1)
        great = tuple(tuple((format(door * 9, "08b"), (room + door) % 24) for door in range(16)) for room in range(24))
        self.told(True, is_writer, great, 4, 8)
        self.told(False, is_writer, great, 3, 8)
        self.told(False, is_writer, great, 4, 7)

    def test_of_another_p_or_q(self):
        for writer in SMALL:
            for p, q in itertools.product((1, 2, 3, 4), range(1, 9)):
                self.told((p, q) == (1, 2), is_writer, writer, p, q)
        self.told(False, is_writer, WIDE, 1, 3)

    def test_without_rooms(self):
        for thing in ((), [], None, "", 0):
            self.told(False, is_writer, thing, 1, 2)

    def test_numbers_that_are_no_rooms(self):
        for wrong in (-1, 2, 3, 10 ** 40, True, False, None, "0", (0,), [0]):
            self.told(False, is_writer, ((("00", 0), ("01", wrong)), (("10", 0), ("11", 1))), 1, 2)
            self.told(False, is_writer, ((("00", wrong), ("01", 1)), (("10", 0), ("11", 1))), 1, 2)

    def test_rows_that_are_none(self):
        wrongs = ["", "0", "000", "02", "0?", "0 ", " 0", "0\n", "\n0", "\u0661\u0660", None, 0, 10]
        for wrong in wrongs + [("0", "0"), ["0", "1"]]:
            self.told(False, is_writer, ((("00", 0), (wrong, 1)), (("10", 0), ("11", 1))), 1, 2)

    def test_other_things(self):
        for writer, p, q in ((AT_ONCE, 1, 2), (NEVER, 1, 2), (LATER, 1, 2), (WIDE, 2, 3)):
            for thing in changed(writer):
                self.assertIs(is_writer_by_words(thing, p, q), is_writer(thing, p, q), thing)
        for thing in (None, True, False, "1", "", (1,), [1], -1):
            self.told(False, is_writer, AT_ONCE, thing, 2)
            self.told(False, is_writer, AT_ONCE, 1, thing)

    def test_nested_deep(self):
        for thing in deep_things():
            self.assertIs(False, is_writer(thing, 1, 2))
            self.assertIs(False, is_writer((thing,), 1, 2))
            self.assertIs(False, is_writer((("00", 0), thing), 1, 2))
            self.assertIs(False, is_writer(((("00", 0), (thing, 0)),), 1, 2))
            self.assertIs(False, is_writer(((("00", 0), ("00", thing)),), 1, 2))


class Written(Asking):
    def test_ordinary(self):
        self.told(("00", 0), written, AT_ONCE, 1, 0, "0")
        self.told(("011110", 0), written, AT_ONCE, 1, 0, "110")
        self.told(("1001", 1), written, AT_ONCE, 1, 1, "01")
        self.told(("0011", 0), written, LATER, 1, 0, "10")

    def test_parts_are_read_with_their_highest_bit_first(self):
        self.told(("001", 1), written, WIDE, 2, 0, "01")
        self.told(("001", 0), written, WIDE, 2, 0, "10")
        self.told(("111100", 1), written, WIDE, 2, 0, "1110")

    def test_no_bits(self):
        self.told(("", 0), written, AT_ONCE, 1, 0, "")
        self.told(("", 1), written, WIDE, 2, 1, "")

    def test_no_multiple(self):
        for bits in ("0", "1", "000", "01010", "1" * 399):
            self.refused(BadBits, written, WIDE, 2, 0, bits)
        four = (tuple((format(door, "04b"), 0) for door in range(16)),)
        for many in (1, 2, 3, 5, 398, 399):
            self.refused(BadBits, written, four, 4, 0, "1" * many)
        self.told(("1" * 400, 0), written, four, 4, 0, "1" * 400)

    def test_400_bits(self):
        row, room = written(AT_ONCE, 1, 0, "01" * 200)
        self.assertEqual((800, 1), (len(row), room))
        self.assertEqual("0001" + "1001" * 199, row)


class ReadAll(Asking):
    def test_ordinary(self):
        self.told(["110"], read_all, AT_ONCE, 1, 2, 0, "011110")
        self.told(["0", "1"], read_all, LATER, 1, 2, 0, "00")
        self.told(["00"], read_all, LATER, 1, 2, 0, "0001")
        self.told(["11"], read_all, LATER, 1, 2, 0, "0000")
        self.told(["01", "10"], read_all, WIDE, 2, 3, 0, "001")

    def test_the_empty_row(self):
        for writer in SMALL:
            self.told([""], read_all, writer, 1, 2, 0, "")
        self.told([""], read_all, WIDE, 2, 3, 1, "")

    def test_none(self):
        self.told([], read_all, AT_ONCE, 1, 2, 0, "10")
        self.told([], read_all, AT_ONCE, 1, 2, 0, "0010")
        self.told([], read_all, LATER, 1, 2, 1, "00")

    def test_bits_of_no_block(self):
        for row in ("0", "1", "000", "00000"):
            for writer in SMALL:
                self.told([], read_all, writer, 1, 2, 0, row)
        for row in ("0", "00", "0000", "00000"):
            self.told([], read_all, WIDE, 2, 3, 0, row)

    def test_readings_gone_through_one_by_one(self):
        for writer in SMALL:
            for room, many in itertools.product(range(len(writer)), range(9)):
                for row in rows_of(many):
                    wanted = readings(writer, 1, 2, room, row)
                    self.assertEqual(repr(wanted), repr(read_all(writer, 1, 2, room, row)))
                    sure = beginning(wanted) if wanted else None
                    self.assertEqual(repr(sure), repr(surely(writer, 1, 2, room, row)))
        for room, many in itertools.product((0, 1), (0, 1, 3, 4, 6, 9)):
            for row in rows_of(many):
                wanted = readings(WIDE, 2, 3, room, row)
                self.assertEqual(repr(wanted), repr(read_all(WIDE, 2, 3, room, row)))
                sure = beginning(wanted) if wanted else None
                self.assertEqual(repr(sure), repr(surely(WIDE, 2, 3, room, row)))

    def test_many_readings(self):
        self.told(rows_of(8), read_all, NEVER, 1, 2, 0, "00" * 8)

    def test_beginnings_that_end_nowhere_cost_nothing(self):
        # From room 0 all goes on alike for ever, but the last row is written from room 1 alone.
        writer = ((("0", 0), ("0", 1)), (("0", 1), ("1", 1)))
        wanted = ["0" * at + "1" + "0" * (398 - at) + "1" for at in range(399)]
        self.told(wanted[::-1], read_all, writer, 1, 1, 0, "0" * 399 + "1")
        dead = ((("0", 0), ("0", 0)), (("1", 1), ("1", 1)))
        self.told([], read_all, dead, 1, 1, 0, "0" * 399 + "1")

    def test_what_was_written_is_read(self):
        for writer in SMALL:
            for room in range(len(writer)):
                for bits in rows_to(6):
                    row, end = written(writer, 1, room, bits)
                    self.assertIn(bits, read_all(writer, 1, 2, room, row))


class Surely(Asking):
    def test_ordinary(self):
        self.told("110", surely, AT_ONCE, 1, 2, 0, "011110")
        self.told("", surely, LATER, 1, 2, 0, "00")
        self.told("00", surely, LATER, 1, 2, 0, "0001")
        self.told("", surely, NEVER, 1, 2, 0, "0000")

    def test_a_beginning_of_a_part(self):
        writer = ((("0", 0), ("0", 0), ("1", 0), ("1", 0)),)
        self.told("1", surely, writer, 2, 1, 0, "1")
        self.told("0", surely, writer, 2, 1, 0, "01")
        outer = ((("0", 0), ("1", 0), ("1", 0), ("0", 0)),)
        self.told("", surely, outer, 2, 1, 0, "0")
        self.told("", surely, outer, 2, 1, 0, "1")
        three = (tuple((row, 0) for row in ("00", "01", "01", "10", "11", "11", "10", "11")),)
        self.told("000", surely, three, 3, 2, 0, "00")
        self.told("0000", surely, three, 3, 2, 0, "0001")
        self.told("1", surely, three, 3, 2, 0, "11")
        self.told("", surely, three, 3, 2, 0, "10")

    def test_the_empty_row(self):
        for writer in SMALL:
            self.told("", surely, writer, 1, 2, 0, "")

    def test_none(self):
        self.told(None, surely, AT_ONCE, 1, 2, 0, "10")
        for row in ("0", "000"):
            for writer in SMALL:
                self.told(None, surely, writer, 1, 2, 0, row)

    def test_more_readings_than_could_be_told(self):
        self.told("", surely, NEVER, 1, 2, 0, "00" * 200)
        # A block that tells its bit, and then blocks that tell none.
        writer = ((("00", 1), ("11", 1)), (("01", 1), ("01", 1)))
        self.told("1", surely, writer, 1, 2, 0, "11" + "01" * 199)
        self.told(None, surely, writer, 1, 2, 0, "11" + "01" * 198 + "00")

    def test_all_but_the_last_blocks_of_the_look_ahead(self):
        for writer, ahead in ((AT_ONCE, 0), (LATER, 1)):
            self.told(ahead, look_ahead, writer, 5)
            for room in range(len(writer)):
                for bits in rows_to(7):
                    row, end = written(writer, 1, room, bits)
                    sure = surely(writer, 1, 2, room, row)
                    self.assertTrue(bits.startswith(sure))
                    self.assertGreaterEqual(len(sure), len(bits) - ahead)


class LookAhead(Asking):
    def test_ordinary(self):
        self.told(0, look_ahead, AT_ONCE, 0)
        self.told(0, look_ahead, AT_ONCE, 9)
        self.told(1, look_ahead, LATER, 1)
        self.told(1, look_ahead, LATER, 9)
        self.told(None, look_ahead, LATER, 0)
        self.told(1, look_ahead, WIDE, 9)

    def test_never(self):
        for writer in (NEVER, MAYBE_NEVER, TOGETHER):
            for most in (0, 1, 2, 9, 400, 10 ** 40):
                self.told(None, look_ahead, writer, most)

    def test_a_chain_of_any_length(self):
        for many in (2, 5, 11):
            # From room 0 two ways go on alike through so many doors, and then apart.
            one = [(("10", at + 1), ("11", at + 1)) for at in range(1, many)]
            other = [(("10", at + 1), ("11", at + 1)) for at in range(many + 1, 2 * many)]
            last = ((("00", 0), ("01", 0)), (("10", 0), ("11", 0)))
            writer = ((("00", 1), ("00", many + 1)),) + tuple(one) + last[:1] + tuple(other) + last[1:]
            self.assertTrue(is_writer(writer, 1, 2))
            self.told(many, look_ahead, writer, 24)
            self.told(many, look_ahead, writer, many)
            self.told(None, look_ahead, writer, many - 1)

    def test_ways_gone_through_one_by_one(self):
        for writer in SMALL:
            for most in range(5):
                self.assertEqual(repr(look_ahead_by_ways(writer, most)), repr(look_ahead(writer, most)))
        for writer in writers_of(2, ("0", "1")):
            for most in (0, 1, 4):
                self.assertEqual(repr(look_ahead_by_ways(writer, most)), repr(look_ahead(writer, most)), writer)
        for writer in list(writers_of(3, ("0", "1")))[::211]:
            self.assertEqual(repr(look_ahead_by_ways(writer, 6)), repr(look_ahead(writer, 6)), writer)

    def test_of_four_doors(self):
        for writer in list(writers_of(2, ("0", "1"), 2))[::97]:
            self.assertEqual(repr(look_ahead_by_ways(writer, 3)), repr(look_ahead(writer, 3)), writer)

    def test_24_rooms_of_16_doors(self):
        plain = tuple(
            tuple((format(door * 16 + room % 16, "08b"), (room * 5 + door) % 24) for door in range(16))
            for room in range(24)
        )
        self.told(0, look_ahead, plain, 24)
        alike = tuple(tuple(("00000000", (room * 5 + door) % 24) for door in range(16)) for room in range(24))
        self.told(None, look_ahead, alike, 24)


class ByTurns(Asking):
    def test_two_writers_by_turns(self):
        for _ in range(3):
            self.told(("0111", 1), written, AT_ONCE, 1, 0, "11")
            self.told(("0000", 0), written, LATER, 1, 0, "11")
            self.told(["11"], read_all, AT_ONCE, 1, 2, 0, "0111")
            self.told(["11"], read_all, LATER, 1, 2, 0, "0000")
            self.told(0, look_ahead, AT_ONCE, 3)
            self.told(1, look_ahead, LATER, 3)


if __name__ == "__main__":
    unittest.main()
