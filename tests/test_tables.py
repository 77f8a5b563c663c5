import itertools
import unittest

from asking import CHAIN, CYCLE, FULL, Asking, changed, deep_things, machines_of, rows_of, rows_to
from runbound.bounds import keeps, machine_of
from runbound.errors import BadBits, BadBlock
from runbound.machines import walk
from runbound.tables import bits_for, least_many, shows_least_many, table_read, table_written

# No two ones stand together.
GOLDEN = ((0, 1), (0, None))
BOTH = ((0, 0),)
LONE = ((0, None),)
HALT = ((None, None),)
# Both bits of room 0 lead to 1, which leads back by 1 alone.
DOUBLE = ((1, 1), (None, 0))


def rounds_by_one(machine, room, many):
    """The rounds from a room, put together one by one."""
    return [row for row in rows_of(many) if walk(machine, room, row) == room]


def power_by_steps(count):
    """The greatest p such that 2 ** p is at most the count, None where the count is 0."""
    p = None
    while count >= 2 ** (0 if p is None else p + 1):
        p = 0 if p is None else p + 1
    return p


def tables(most):
    """Small machines, rooms and numbers of bits with the rounds that stand for bits, and how many bits."""
    for machine in machines_of(2):
        for room, many in itertools.product((0, 1), range(1, most + 1)):
            rounds = rounds_by_one(machine, room, many)
            p = power_by_steps(len(rounds))
            if p:
                yield machine, room, many, p, rounds


class BitsFor(Asking):
    def test_ordinary(self):
        self.told(1, bits_for, GOLDEN, 0, 2)
        self.told(1, bits_for, GOLDEN, 0, 3)
        self.told(2, bits_for, GOLDEN, 0, 4)
        self.told(1, bits_for, BOTH, 0, 1)
        self.told(1, bits_for, DOUBLE, 0, 2)

    def test_no_round(self):
        self.told(None, bits_for, HALT, 0, 1)
        self.told(None, bits_for, DOUBLE, 0, 1)
        self.told(None, bits_for, GOLDEN, 1, 1)
        self.told(None, bits_for, CYCLE, 7, 59)
        self.told(None, bits_for, CHAIN, 0, 400)

    def test_one_round_alone(self):
        self.told(0, bits_for, LONE, 0, 1)
        self.told(0, bits_for, LONE, 0, 400)
        self.told(0, bits_for, CYCLE, 7, 60)
        self.told(0, bits_for, GOLDEN, 0, 1)

    def test_just_as_many_and_one_less(self):
        # Of golden rounds there are 1, 2, 3, 5, 8, 13 .. from room 0.
        for many, p in ((1, 0), (2, 1), (3, 1), (4, 2), (5, 3), (6, 3), (7, 4)):
            self.told(p, bits_for, GOLDEN, 0, many)
        self.told(1, bits_for, ((1, 2), (0, 3), (0, None), (None, None)), 0, 2)
        self.assertEqual(3, len(rounds_by_one(((1, 2), (0, 0), (0, None)), 0, 2)))
        self.told(1, bits_for, ((1, 2), (0, 0), (0, None)), 0, 2)
        self.told(2, bits_for, ((1, 2), (0, 0), (0, 0)), 0, 2)

    def test_400_bits(self):
        self.told(400, bits_for, BOTH, 0, 400)
        self.told(200, bits_for, DOUBLE, 0, 400)
        self.told(None, bits_for, DOUBLE, 0, 399)
        self.told(277, bits_for, GOLDEN, 0, 400)

    def test_rounds_put_together_one_by_one(self):
        for machine in machines_of(2):
            for room, many in itertools.product((0, 1), range(1, 7)):
                wanted = power_by_steps(len(rounds_by_one(machine, room, many)))
                self.assertEqual(repr(wanted), repr(bits_for(machine, room, many)))


class LeastMany(Asking):
    def test_ordinary(self):
        self.told((1, [1]), least_many, GOLDEN, 0, 0, 10)
        self.told((2, [1, 2]), least_many, GOLDEN, 0, 1, 10)
        self.told((4, [1, 2, 3, 5]), least_many, GOLDEN, 0, 2, 10)
        self.told((5, [1, 2, 3, 5, 8]), least_many, GOLDEN, 0, 3, 10)
        self.told((4, [0, 1, 1, 2]), least_many, GOLDEN, 1, 1, 10)
        self.told((4, [0, 2, 0, 4]), least_many, DOUBLE, 0, 2, 10)

    def test_none_up_to_most(self):
        self.told(None, least_many, GOLDEN, 0, 2, 3)
        self.told((4, [1, 2, 3, 5]), least_many, GOLDEN, 0, 2, 4)
        self.told(None, least_many, GOLDEN, 0, 1, 1)
        self.told(None, least_many, LONE, 0, 1, 400)
        self.told(None, least_many, HALT, 0, 0, 400)
        self.told(None, least_many, CYCLE, 5, 0, 59)
        self.told((60, [0] * 59 + [1]), least_many, CYCLE, 5, 0, 60)

    def test_60_bits_and_60_rooms(self):
        self.told((60, [2 ** many for many in range(1, 61)]), least_many, BOTH, 0, 60, 400)
        self.told(None, least_many, BOTH, 0, 60, 59)
        many, told = least_many(FULL, 3, 60, 400)
        self.assertGreaterEqual(told[-1], 2 ** 60)
        self.assertLess(max(told[:-1]), 2 ** 60)
        self.told(True, shows_least_many, FULL, 3, 60, many, told)

    def test_rounds_put_together_one_by_one(self):
        for machine in machines_of(2):
            for room, p in itertools.product((0, 1), range(4)):
                rounds = [len(rounds_by_one(machine, room, many)) for many in range(1, 7)]
                first = next((at for at, count in enumerate(rounds) if count >= 2 ** p), None)
                wanted = None if first is None else (first + 1, rounds[:first + 1])
                self.assertEqual(repr(wanted), repr(least_many(machine, room, p, 6)))
                if wanted is not None:
                    self.assertIs(True, shows_least_many(machine, room, p, *wanted))


class ShowsLeastMany(Asking):
    def test_ordinary(self):
        self.told(True, shows_least_many, GOLDEN, 0, 2, 4, [1, 2, 3, 5])
        self.told(True, shows_least_many, GOLDEN, 0, 2, 4, (1, 2, 3, 5))
        self.told(True, shows_least_many, GOLDEN, 0, 0, 1, [1])
        self.told(True, shows_least_many, DOUBLE, 0, 1, 2, [0, 2])
        self.told(False, shows_least_many, GOLDEN, 0, 2, 4, [1, 2, 3, 4])
        self.told(False, shows_least_many, GOLDEN, 0, 2, 4, [1, 1, 3, 5])
        self.told(False, shows_least_many, GOLDEN, 1, 2, 4, [1, 2, 3, 5])

    def test_the_last_alone_is_enough(self):
        self.told(False, shows_least_many, GOLDEN, 0, 2, 3, [1, 2, 3])
        self.told(False, shows_least_many, GOLDEN, 0, 2, 5, [1, 2, 3, 5, 8])
        self.told(True, shows_least_many, GOLDEN, 0, 3, 5, [1, 2, 3, 5, 8])
        # Just as many are enough: an earlier one too many, and the last one too.
        self.told(True, shows_least_many, GOLDEN, 0, 1, 2, [1, 2])
        self.told(False, shows_least_many, GOLDEN, 0, 1, 3, [1, 2, 3])
        self.told(False, shows_least_many, DOUBLE, 0, 1, 4, [0, 2, 0, 4])
        self.told(False, shows_least_many, DOUBLE, 0, 1, 3, [0, 2, 0])
        self.told(False, shows_least_many, HALT, 0, 0, 1, [0])

    def test_counts_of_another_number(self):
        for told in ([], [1, 2, 3], [1, 2, 3, 5, 8], [2, 3, 5], [1, 2, 3, 5, 5]):
            self.told(False, shows_least_many, GOLDEN, 0, 2, 4, told)
        for many in (0, -1, 3, 5, 10 ** 40, -4):
            self.told(False, shows_least_many, GOLDEN, 0, 2, many, [1, 2, 3, 5])
        self.told(False, shows_least_many, GOLDEN, 0, 0, 0, [])

    def test_true_and_false_are_no_numbers(self):
        self.told(True, shows_least_many, LONE, 0, 0, 1, [1])
        for many, told in ((True, [1]), (1, [True]), (True, [True]), (False, []), (1, [False])):
            self.told(False, shows_least_many, LONE, 0, 0, many, told)
        self.told(False, shows_least_many, DOUBLE, 0, 1, 2, [False, 2])

    def test_other_things(self):
        for thing in changed([1, 2, 3, 5]):
            wanted = repr(thing) in ("[1, 2, 3, 5]", "(1, 2, 3, 5)")
            self.told(wanted, shows_least_many, GOLDEN, 0, 2, 4, thing)
        for thing in changed(4):
            self.told(False, shows_least_many, GOLDEN, 0, 2, thing, [1, 2, 3, 5])
        for thing in changed(GOLDEN):
            self.assertIn(shows_least_many(thing, 0, 2, 4, [1, 2, 3, 5]), (True, False))
        for thing in (None, True, False, "1", "", (1,), [1], 2, -1):
            self.told(False, shows_least_many, GOLDEN, thing, 2, 4, [1, 2, 3, 5])
        for thing in (None, True, False, "1", "", (1,), [1]):
            self.told(False, shows_least_many, GOLDEN, 0, thing, 4, [1, 2, 3, 5])
        self.told(False, shows_least_many, (), 0, 0, 1, [1])

    def test_nested_deep(self):
        for thing in deep_things():
            self.assertIs(False, shows_least_many(GOLDEN, 0, 2, 4, thing))
            self.assertIs(False, shows_least_many(GOLDEN, 0, 2, 4, [1, 2, 3, thing]))
            self.assertIs(False, shows_least_many(GOLDEN, 0, 2, thing, [1, 2, 3, 5]))
            self.assertIs(False, shows_least_many(thing, 0, 2, 4, [1, 2, 3, 5]))

    def test_400_bits(self):
        told = least_many(GOLDEN, 0, 277, 400)
        self.told(True, shows_least_many, GOLDEN, 0, 277, *told)
        self.told(False, shows_least_many, GOLDEN, 0, 276, *told)
        self.told(False, shows_least_many, GOLDEN, 0, 278, *told)


class TableWritten(Asking):
    def test_ordinary(self):
        # The golden rounds of 4 bits: 0000, 0010, 0100, 1000, 1010.
        self.told("0000", table_written, GOLDEN, 0, 4, "00")
        self.told("1000001000000100", table_written, GOLDEN, 0, 4, "11010010")
        self.told("0010", table_written, GOLDEN, 0, 2, "01")
        self.told("0111", table_written, DOUBLE, 0, 2, "01")

    def test_no_bits(self):
        self.told("", table_written, GOLDEN, 0, 4, "")
        self.told("", table_written, BOTH, 0, 400, "")

    def test_no_multiple(self):
        for bits in ("0", "1", "000", "01010"):
            self.refused(BadBits, table_written, GOLDEN, 0, 4, bits)
        for many in (1, 2, 399, 401):
            self.refused(BadBits, table_written, BOTH, 0, 400, "1" * many)
        self.told("1" * 400, table_written, BOTH, 0, 400, "1" * 400)

    def test_all_bits_of_small_machines(self):
        for machine, room, many, p, rounds in tables(4):
            for bits in rows_of(p) + rows_of(2 * p)[::3]:
                wanted = "".join(rounds[int(bits[at:at + p], 2)] for at in range(0, len(bits), p))
                self.assertEqual(repr(wanted), repr(table_written(machine, room, many, bits)))
                self.assertEqual(repr(bits), repr(table_read(machine, room, many, wanted)))

    def test_many_bits(self):
        bits = "01101" * 80
        self.told(bits, table_written, BOTH, 0, 8, bits)
        # A round of 18 bits has 7 or 17 ones here.
        self.told(14, bits_for, FULL, 7, 18)
        row = table_written(FULL, 7, 18, bits[:14 * 22])
        self.assertEqual(396, len(row))
        self.told(bits[:14 * 22], table_read, FULL, 7, 18, row)
        row = table_written(GOLDEN, 0, 400, (bits * 2)[:277])
        self.told((bits * 2)[:277], table_read, GOLDEN, 0, 400, row)

    def test_over_the_joints_the_bounds_are_kept(self):
        for bounds in ((1, 2, 1, 3, 3), (2, 3, 1, 2, None), (1, 3, 1, 3, 4)):
            machine = machine_of(bounds)
            for room in range(0, len(machine), 3):
                for many in (6, 12):
                    p = bits_for(machine, room, many)
                    if p:
                        bits = ("0110100110010110" * p)[:16 * p]
                        row = table_written(machine, room, many, bits)
                        self.assertTrue(keeps(bounds, row))
                        self.told(bits, table_read, machine, room, many, row)


class TableRead(Asking):
    def bad_block(self, block, *handed):
        """See the block refused, of its very class, and twice alike."""
        self.refused(BadBlock, table_read, *handed)
        with self.assertRaises(BadBlock) as caught:
            table_read(*handed)
        self.assertEqual(repr(block), repr(caught.exception.block))

    def test_ordinary(self):
        self.told("00", table_read, GOLDEN, 0, 4, "0000")
        self.told("11010010", table_read, GOLDEN, 0, 4, "1000001000000100")
        self.told("01", table_read, DOUBLE, 0, 2, "0111")

    def test_the_empty_row(self):
        self.told("", table_read, GOLDEN, 0, 4, "")
        self.told("", table_read, DOUBLE, 0, 2, "")

    def test_blocks_that_are_no_round(self):
        # It leads elsewhere, and it can't be walked.
        self.bad_block(0, GOLDEN, 0, 4, "0001")
        self.bad_block(0, GOLDEN, 0, 4, "0110")
        self.bad_block(1, GOLDEN, 0, 4, "00000001")
        self.bad_block(2, GOLDEN, 0, 4, "0000" "0010" "1100")
        self.bad_block(0, DOUBLE, 0, 2, "00")

    def test_rounds_beyond_the_table(self):
        self.bad_block(0, GOLDEN, 0, 4, "1010")
        self.bad_block(2, GOLDEN, 0, 4, "100000001010")
        self.bad_block(1, GOLDEN, 0, 3, "010100")

    def test_a_shorter_block_at_the_end(self):
        self.bad_block(0, GOLDEN, 0, 4, "0")
        self.bad_block(0, GOLDEN, 0, 4, "000")
        self.bad_block(1, GOLDEN, 0, 4, "00000")
        self.bad_block(2, GOLDEN, 0, 4, "0000000000")
        self.bad_block(1, DOUBLE, 0, 2, "010")

    def test_the_first_of_several_wrong_blocks(self):
        self.bad_block(1, GOLDEN, 0, 4, "0000" "1010" "0001" "000")
        self.bad_block(0, GOLDEN, 0, 4, "0001" "1010")
        self.bad_block(1, GOLDEN, 0, 4, "0000" "0001" "1010")
        self.bad_block(99, GOLDEN, 0, 4, "0000" * 99 + "1")

    def test_all_rows_of_small_machines(self):
        for machine, room, many, p, rounds in tables(3):
            for row in rows_to(6):
                blocks = [row[at:at + many] for at in range(0, len(row), many)]
                bad = [at for at, block in enumerate(blocks) if block not in rounds[:2 ** p]]
                if bad:
                    with self.assertRaises(BadBlock) as caught:
                        table_read(machine, room, many, row)
                    self.assertEqual(bad[0], caught.exception.block)
                else:
                    bits = table_read(machine, room, many, row)
                    self.assertEqual("".join(format(rounds.index(block), f"0{p}b") for block in blocks), bits)
                    self.assertEqual(row, table_written(machine, room, many, bits))

    def test_400_bits(self):
        self.told("10" * 200, table_read, BOTH, 0, 400, "10" * 200)
        self.bad_block(0, BOTH, 0, 400, "1" * 399)


class ByTurns(Asking):
    def test_two_machines_by_turns(self):
        for _ in range(3):
            self.told((4, [1, 2, 3, 5]), least_many, GOLDEN, 0, 2, 10)
            self.told((4, [0, 2, 0, 4]), least_many, DOUBLE, 0, 2, 10)
            self.told("1000", table_written, GOLDEN, 0, 4, "11")
            self.told("1111", table_written, DOUBLE, 0, 4, "11")
            self.told("11", table_read, GOLDEN, 0, 4, "1000")
            self.told("11", table_read, DOUBLE, 0, 4, "1111")


if __name__ == "__main__":
    unittest.main()
