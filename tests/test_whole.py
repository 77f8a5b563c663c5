"""Walks over the whole program: bounds, machines, weights, writers, windows, tables, joints, sums, stuffing."""

import functools
import importlib
import inspect
import itertools
import unittest

from asking import Asking
from runbound.bounds import fault_at, keeps, machine_of, next_bits
from runbound.counting import counts, counts_to, number_of, row_at
from runbound.growth import growth, shows_growth
from runbound.joints import filled, fillings, joint, joint_between
from runbound.kinds import apart, lessened, shows_alike
from runbound.machines import is_machine, is_ring, powered, rings, starts, trimmed, walk
from runbound.rows import exchanged, row_by, runs, spread_of, sum_of
from runbound.splitting import shows_writer, split_writer
from runbound.stuffing import stuffed, unstuffed
from runbound.sums import balance_read, balance_written, flags_read, flags_written
from runbound.tables import bits_for, least_many, shows_least_many, table_read, table_written
from runbound.weights import enough, shows_enough, shows_too_little, too_little
from runbound.windows import read_by, reader_of, spoilt, window_for
from runbound.writers import is_writer, look_ahead, read_all, surely, written

BITS = "011010011100010111011000100101001111101000" * 4
# Bounds with p and q that their rows have room for.
ROOMY = [
    ((1, 7, 1, 1, None), 2, 3), ((1, 2, 1, 1, None), 3, 8), ((1, 2, 1, 1, None), 1, 3), ((1, 3, 1, 3, 3), 2, 3),
    ((1, 4, 1, 4, 3), 4, 6), ((1, 3, 1, 2, None), 3, 4), ((2, 8, 1, 1, None), 4, 8), ((1, 1, 1, 2, None), 2, 5),
    ((1, 2, 1, 2, None), 1, 2), ((1, 3, 1, 1, None), 1, 2), ((1, 4, 1, 4, 4), 2, 3), ((1, 8, 1, 8, 2), 1, 2),
]
ARGUMENTS = """
rows: runs(row) row_by(runs) exchanged(row) sum_of(row) sums(row) spread_of(row)
bounds: is_bounds(thing) keeps(bounds,row) fault_at(bounds,row) next_bits(bounds,row) rooms_of(bounds)
bounds: machine_of(bounds)
machines: is_machine(thing) walk(machine,room,row) starts(machine,row) trimmed(machine) rings(machine) is_ring(machine)
machines: powered(machine,many)
kinds: apart(one,a,other,b) shows_alike(one,a,other,b,pairs) kinds(machine) lessened(machine)
counting: counts(machine,many) counts_to(machine,many,goal) rows_between(machine,room,goal,many)
counting: row_at(machine,room,goal,many,number) number_of(machine,room,goal,row) next_row(machine,room,goal,row)
growth: growth(machine,steps) shows_growth(machine,low,high,weights)
weights: enough(machine,p,q,most) shows_enough(machine,p,q,weights) too_little(machine,p,q,most)
weights: shows_too_little(machine,p,q,m,counts)
tables: bits_for(machine,room,many) least_many(machine,room,p,most) shows_least_many(machine,room,p,many,counts)
tables: table_written(machine,room,many,bits) table_read(machine,room,many,row)
joints: joint(machine,a,b) joint_between(bounds,one,other) filled(bounds,holes) fillings(bounds,holes)
writers: is_writer(thing,p,q) written(writer,p,room,bits) read_all(writer,p,q,room,row) surely(writer,p,q,room,row)
writers: look_ahead(writer,most)
splitting: split_writer(machine,p,q,weights) shows_writer(machine,p,q,writer,under,ahead)
windows: window_for(writer,most) reader_of(writer,p,back,ahead) read_by(pairs,p,q,back,ahead,row)
windows: spoilt(pairs,p,q,back,ahead,row,place)
sums: turned(row,many) turning(row) balanced_count(many) balanced_at(many,number) balanced_number(row) head_for(many)
sums: balance_written(row) balance_read(row,many) flags_written(row,many) flags_read(row,many)
stuffing: stuffed(row,most) unstuffed(row,most)
"""


@functools.lru_cache(None)
def writer_for(bounds, p, q):
    """The lessened machine of bounds, and a writer split of the least weights that are enough."""
    machine = lessened(machine_of(bounds))[0]
    weights = next(filter(None, (enough(machine, p, q, most) for most in range(1, 21))))
    return machine, split_writer(machine, p, q, weights)


class Interface(unittest.TestCase):
    def test_every_name_and_argument_is_there(self):
        asked = 0
        for line in ARGUMENTS.strip().splitlines():
            module, _, deeds = line.partition(": ")
            for deed in deeds.split():
                name, _, arguments = deed.rstrip(")").partition("(")
                told = inspect.signature(getattr(importlib.import_module("runbound." + module), name))
                self.assertEqual(arguments.split(","), list(told.parameters), deed)
                self.assertTrue(all(each.default is each.empty for each in told.parameters.values()), deed)
                asked += 1
        self.assertEqual(67, asked)


class WritersOverBounds(Asking):
    def test_weights_that_are_enough(self):
        for bounds, p, q in ROOMY:
            machine, told = writer_for(bounds, p, q)
            self.assertTrue(is_machine(machine) and len(machine) <= 12)
            self.assertLessEqual(max(map(len, powered(machine, q))), 40)
            self.assertIsNone(too_little(machine, p, q, 400 // q))
            weights = enough(machine, p, q, 1000)
            self.told(True, shows_enough, machine, p, q, weights)

    def test_what_is_written_keeps_the_bounds(self):
        for bounds, p, q in ROOMY:
            machine, (writer, under, ahead) = writer_for(bounds, p, q)
            self.told(True, shows_writer, machine, p, q, writer, under, ahead)
            self.assertTrue(is_writer(writer, p, q))
            for room in range(len(writer)):
                row, end = written(writer, p, room, BITS[:len(BITS) // p * p])
                self.assertEqual(under[end], walk(machine, under[room], row))
                self.assertTrue(keeps(bounds, row[:400]))
                self.assertIsNone(fault_at(bounds, row[:400]))

    def test_what_is_written_is_read_back(self):
        for bounds, p, q in ROOMY:
            machine, (writer, under, ahead) = writer_for(bounds, p, q)
            for room in range(len(writer)):
                bits = BITS[room:room + 20 * p]
                row, end = written(writer, p, room, bits)
                sure = surely(writer, p, q, room, row)
                self.assertTrue(bits.startswith(sure))
                self.assertGreaterEqual(len(sure), len(bits) - p * ahead)
                self.assertIn(bits, read_all(writer, p, q, room, row))

    def test_no_two_unlike_bits_are_written_alike_but_for_the_last(self):
        for bounds, p, q in ROOMY[1:4]:
            machine, (writer, under, ahead) = writer_for(bounds, p, q)
            many = ahead + 2
            if p * many <= 12:
                for room in range(len(writer)):
                    found = {}
                    for bits in itertools.product("01", repeat=p * many):
                        bits = "".join(bits)
                        row, end = written(writer, p, room, bits)
                        self.assertEqual(bits[:2 * p], found.setdefault(row, bits)[:2 * p])

    def test_through_a_window(self):
        seen = 0
        for bounds, p, q in ROOMY:
            machine, (writer, under, later) = writer_for(bounds, p, q)
            window = window_for(writer, 2)
            if window is None:
                continue
            back, ahead = window
            pairs = reader_of(writer, p, back, ahead)
            seen += 1
            for room in range(len(writer)):
                bits = BITS[:24 * p]
                row, end = written(writer, p, room, bits)
                self.assertEqual(bits[p * back:len(bits) - p * ahead], read_by(pairs, p, q, back, ahead, row))
                for place in range(room, len(row), 11):
                    told = spoilt(pairs, p, q, back, ahead, row, place)
                    self.assertLessEqual(told, p * (back + 1 + ahead))
        self.assertGreater(seen, 5)

    def test_a_wrong_bit_changes_only_what_is_near(self):
        bounds, p, q = (1, 2, 1, 1, None), 3, 8
        machine, (writer, under, later) = writer_for(bounds, p, q)
        back, ahead = window_for(writer, 4)
        pairs = reader_of(writer, p, back, ahead)
        row, end = written(writer, p, 0, BITS[:60])
        right = read_by(pairs, p, q, back, ahead, row)
        for place in range(len(row)):
            wrong = row[:place] + exchanged(row[place]) + row[place + 1:]
            told = read_by(pairs, p, q, back, ahead, wrong)
            unlike = [at for at in range(len(told)) if told[at] != right[at]]
            block = place // q
            for at in unlike:
                self.assertTrue(block - ahead <= at // p + back <= block + back, (place, at))
            self.assertEqual(len(unlike), spoilt(pairs, p, q, back, ahead, row, place))


class PapersOverBounds(Asking):
    def test_enough_or_too_little(self):
        papers = 0
        for low, high, p, q in itertools.product((1, 2), (2, 3, 4), (1, 2, 3), (2, 3, 4, 5)):
            machine = lessened(machine_of((low, high, 1, 2, None)))[0]
            weights = enough(machine, p, q, 1000)
            paper = too_little(machine, p, q, 50)
            self.assertFalse(weights is not None and paper is not None)
            if paper is not None:
                self.told(True, shows_too_little, machine, p, q, *paper)
                papers += 1
            if weights is not None:
                self.told(True, shows_enough, machine, p, q, weights)
        self.assertGreater(papers, 5)

    def test_growth_by_rows(self):
        for bounds in ((1, 2, 1, 3, None), (1, 3, 1, 3, 3)):
            machine = lessened(machine_of(bounds))[0]
            self.assertTrue(is_ring(machine))
            self.assertEqual([list(range(len(machine)))], rings(machine))
            self.told(True, shows_growth, machine, *growth(machine, 20))

    def test_alike_rooms(self):
        machine = machine_of((1, 2, 1, 2, 3))
        less, numbers = lessened(machine)
        pairs = list(enumerate(numbers))
        for room in range(len(machine)):
            self.assertIsNone(apart(machine, room, less, numbers[room]))
            self.told(True, shows_alike, machine, room, less, numbers[room], pairs)
        self.assertEqual(machine, trimmed(machine)[0])

    def test_numbers_and_rows_undo_one_another(self):
        machine = machine_of((1, 2, 1, 3, 3))
        for room, goal in ((0, None), (1, 4), (3, 3)):
            many = 120
            rows = counts(machine, many)[room] if goal is None else counts_to(machine, many, goal)[room]
            for number in range(0, rows, max(1, rows // 7)):
                row = row_at(machine, room, goal, many, number)
                self.assertEqual(number, number_of(machine, room, goal, row))
                self.assertTrue(keeps((1, 2, 1, 3, 3), row))


class TablesAndJoints(Asking):
    def test_tables_keep_the_bounds(self):
        for bounds in ((1, 2, 1, 3, 3), (1, 7, 1, 1, None), (2, 3, 2, 4, 5)):
            machine = machine_of(bounds)
            for room in range(0, len(machine), 4):
                paper = least_many(machine, room, 3, 40)
                if paper is not None:
                    self.told(True, shows_least_many, machine, room, 3, *paper)
                    p = bits_for(machine, room, paper[0])
                    bits = BITS[:6 * p]
                    row = table_written(machine, room, paper[0], bits)
                    self.assertTrue(keeps(bounds, row))
                    self.told(bits, table_read, machine, room, paper[0], row)

    def test_blocks_of_two_tables_are_joined(self):
        bounds = (1, 2, 1, 3, 3)
        machine = machine_of(bounds)
        for a, b in itertools.product(range(0, len(machine), 3), repeat=2):
            between = joint(machine, a, b)
            if between is not None and bits_for(machine, a, 8) and bits_for(machine, b, 8):
                one = table_written(machine, a, 8, BITS[:2 * bits_for(machine, a, 8)])
                other = table_written(machine, b, 8, BITS[:3 * bits_for(machine, b, 8)])
                self.assertTrue(keeps(bounds, one + between + other))
                shorter = joint_between(bounds, one, other)
                self.assertLessEqual((len(shorter), shorter), (len(between), between))
                self.assertTrue(keeps(bounds, one + shorter + other))

    def test_gaps_are_filled_as_joints_are(self):
        bounds = (1, 3, 1, 3, 4)
        for one, other in (("000", "000"), ("0111", "111"), ("000111", "0"), ("1100", "0011")):
            between = joint_between(bounds, one, other)
            self.told(one + between + other, filled, bounds, one + "?" * len(between) + other)
            for many in range(len(between)):
                self.told(0, fillings, bounds, one + "?" * many + other)
            self.assertGreater(fillings(bounds, one + "?" * len(between) + other), 0)

    def test_bit_by_bit(self):
        bounds = (1, 2, 1, 3, 3)
        row = ""
        while len(row) < 60:
            bits = next_bits(bounds, row)
            row += bits[-1]
            self.assertTrue(keeps(bounds, row))
            self.assertTrue(starts(machine_of(bounds), row))


class SumsAndStuffing(Asking):
    def test_balanced_flagged_and_stuffed(self):
        for bits in (BITS[:100], "0" * 120, "1" * 64, "01" * 50):
            row = balance_written(bits)
            self.assertEqual(0, sum_of(row))
            self.told(bits, balance_read, row, len(bits))
            flagged = flags_written(bits[:len(bits) // 4 * 4], 4)
            self.told(bits[:len(bits) // 4 * 4], flags_read, flagged, 4)
            self.assertLessEqual(spread_of(flagged), 14)
            for each in (bits, row, flagged):
                for most in (2, 3, 5):
                    told = stuffed(each, most)
                    self.assertLessEqual(max(many for bit, many in runs(told)), most)
                    self.assertTrue(keeps((1, most, 1, most, None), told))
                    self.assertEqual(told, row_by(runs(told)))
                    self.told(each, unstuffed, told, most)

    def test_all_of_a_writer_behind_another(self):
        # What is flagged is written once more, and both are undone.
        bounds, p, q = (1, 2, 1, 2, None), 1, 2
        machine, (writer, under, ahead) = writer_for(bounds, p, q)
        self.assertEqual(0, look_ahead(writer, 9))
        flagged = flags_written(BITS[:80], 8)
        row, end = written(writer, p, 0, flagged)
        self.assertTrue(keeps(bounds, row))
        self.assertEqual(BITS[:80], flags_read(surely(writer, p, q, 0, row), 8))


if __name__ == "__main__":
    unittest.main()
