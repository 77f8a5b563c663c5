import itertools
import unittest

from asking import CHAIN, CYCLE, FULL, Asking, deep_things, machines_of, rows_of, rows_to, small_machines
from runbound.machines import is_machine, is_ring, powered, rings, starts, trimmed, walk

# From room 0 both bits lead on; 1 goes back by 0; 2 stays by 1 and leads nowhere by 0.
PLAIN = ((1, 2), (0, None), (None, 2))
# Rooms 0 and 1 lead to the ring 2, 3; it leads by 4 to the ring 5; 6 and 7 come from that.
LONG = ((1, None), (None, 2), (3, None), (2, 4), (5, 5), (5, 6), (7, None), (None, None))
GREAT = tuple(((room + 1) % 300, room - 1 if room else None) for room in range(300))


def leads_by_closure(machine):
    """For each two rooms, whether one bit or more lead from one to the other."""
    rooms = range(len(machine))
    leads = {(a, b): b in machine[a] for a in rooms for b in rooms}
    for middle, a, b in itertools.product(rooms, repeat=3):
        if leads[a, middle] and leads[middle, b]:
            leads[a, b] = True
    return leads


def rings_by_closure(machine):
    leads = leads_by_closure(machine)
    rooms = range(len(machine))
    groups = [[b for b in rooms if leads[a, b] and leads[b, a]] for a in rooms]
    return [list(group) for group in sorted({tuple(group) for group in groups if group})]


def endless_by_closure(machine):
    """Rooms on an endless walk: one on a round leads there, and there leads to one on a round."""
    leads = leads_by_closure(machine)
    rooms = range(len(machine))
    rounds = [room for room in rooms if leads[room, room]]
    return [
        room
        for room in rooms
        if any(leads[one, room] for one in rounds) and any(leads[room, one] for one in rounds)
    ]


class IsMachine(Asking):
    def test_machines(self):
        for machine in ((), PLAIN, LONG, FULL, CHAIN, CYCLE, GREAT):
            self.told(True, is_machine, machine)
        for machine in small_machines():
            self.assertIs(True, is_machine(machine))

    def test_one_room(self):
        for room in ((None, None), (0, None), (None, 0), (0, 0)):
            self.told(True, is_machine, (room,))

    def test_lists_in_the_place_of_tuples(self):
        for thing in ([], [(0, 0)], ([0, 0],), ((0, 0), [0, 1]), [[0, 0]], ([],), ((0, [0]),), (([], 0),)):
            self.told(False, is_machine, thing)

    def test_rooms_of_another_number_of_parts(self):
        for room in ((), (0,), (None,), (0, 0, 0), (None, None, None), (0, None, 0, None)):
            self.told(False, is_machine, (room,))
            self.told(False, is_machine, ((0, 0), room))

    def test_numbers_that_are_no_rooms(self):
        for wrong in (-1, -2, 2, 3, 10 ** 40, -(10 ** 40)):
            self.told(False, is_machine, ((0, 1), (0, wrong)))
            self.told(False, is_machine, ((wrong, 1), (0, 1)))
        self.told(False, is_machine, ((1, None),))

    def test_true_and_false_are_no_numbers(self):
        for wrong in (True, False):
            self.told(False, is_machine, ((0, wrong), (0, 1)))
            self.told(False, is_machine, ((0, 1), (wrong, 1)))
            self.told(False, is_machine, ((wrong, wrong), (wrong, wrong)))
            self.told(False, is_machine, ((wrong, 0),))

    def test_other_things_as_a_whole(self):
        for thing in (None, True, False, 0, 1, -1, 60, "", "0", "01", "()", [None], [0], [[]]):
            self.told(False, is_machine, thing)

    def test_other_things_as_rooms(self):
        for thing in (None, True, False, 0, 1, "", "0", "01", "00", [], [0, 0], ["0", "0"], ((0, 0), (0, 0))):
            self.told(False, is_machine, (thing,))
            self.told(False, is_machine, ((0, 1), thing))
            self.told(False, is_machine, (thing, (0, 1)))

    def test_other_things_as_leads(self):
        for thing in ("", "0", "None", (), (0,), (0, 0), [], [0], [None], (None, None), ((0, 0),)):
            self.told(False, is_machine, ((0, thing),))
            self.told(False, is_machine, ((thing, 0),))
            self.told(False, is_machine, ((0, 1), (1, thing)))

    def test_nested_deep(self):
        for thing in deep_things():
            self.assertIs(False, is_machine(thing))
            self.assertIs(False, is_machine((thing,)))
            self.assertIs(False, is_machine(((0, thing),)))

    def test_one_wrong_among_many(self):
        for at in (0, 30, 59):
            for wrong in ((0, 60), (-1, 0), (True, 0), ("1", 0), [0, 0], None):
                self.told(False, is_machine, FULL[:at] + (wrong,) + FULL[at + 1:])


class Walk(Asking):
    def test_ordinary(self):
        self.told(0, walk, PLAIN, 0, "00")
        self.told(2, walk, PLAIN, 0, "00111")
        self.told(1, walk, PLAIN, 1, "00")
        self.told(2, walk, PLAIN, 2, "1")

    def test_the_empty_row_stays(self):
        for room in range(3):
            self.told(room, walk, PLAIN, room, "")
        self.told(0, walk, ((None, None),), 0, "")

    def test_a_bit_that_leads_nowhere(self):
        self.told(None, walk, PLAIN, 1, "1")
        self.told(None, walk, PLAIN, 2, "0")
        self.told(None, walk, PLAIN, 2, "01")
        self.told(None, walk, PLAIN, 0, "0100")
        self.told(None, walk, PLAIN, 0, "110")

    def test_room_0_is_a_room(self):
        self.told(0, walk, PLAIN, 1, "0")
        self.told(2, walk, PLAIN, 1, "01")

    def test_both_bits_to_one_room_and_to_itself(self):
        self.told(1, walk, ((1, 1), (1, 1)), 0, "1")
        self.told(1, walk, ((1, 1), (1, 1)), 0, "0")
        self.told(1, walk, ((1, 1), (1, 1)), 1, "0101")

    def test_400_bits_and_60_rooms(self):
        self.told(40, walk, FULL, 0, "0" * 400)
        self.told(2800 % 60, walk, FULL, 0, "1" * 400)
        self.told(1600 % 60, walk, FULL, 0, "01" * 200)
        self.told(None, walk, CHAIN, 0, "01" * 200)
        self.told(59, walk, CHAIN, 0, "0" * 59)
        self.told(None, walk, CHAIN, 0, "1" * 60)

    def test_a_greater_machine(self):
        self.told(100, walk, GREAT, 0, "0" * 400)
        self.told(0, walk, GREAT, 299, "1" * 299)
        self.told(None, walk, GREAT, 299, "1" * 300)

    def test_bit_by_bit(self):
        for machine in machines_of(2):
            for room, row in itertools.product(range(2), rows_to(3)):
                wanted = room
                for bit in row:
                    wanted = None if wanted is None else machine[wanted][0 if bit == "0" else 1]
                self.assertEqual(repr(wanted), repr(walk(machine, room, row)))


class Starts(Asking):
    def test_ordinary(self):
        self.told([0, 2], starts, PLAIN, "1")
        self.told([0, 1], starts, PLAIN, "0")
        self.told([0], starts, PLAIN, "001")
        self.told([], starts, PLAIN, "10")

    def test_the_empty_row_from_every_room(self):
        self.told([0, 1, 2], starts, PLAIN, "")
        self.told([0], starts, ((None, None),), "")

    def test_a_row_that_leads_to_room_0(self):
        self.told([1], starts, ((None, None), (0, None)), "0")

    def test_a_machine_without_rooms(self):
        self.told([], starts, (), "")
        self.told([], starts, (), "01")

    def test_400_bits_and_60_rooms(self):
        self.told(list(range(60)), starts, FULL, "01" * 200)
        self.told([], starts, CYCLE, "0" * 399 + "1")
        self.told(list(range(60)), starts, CYCLE, "0" * 400)
        self.told(list(range(10)), starts, CHAIN, "01" * 25)

    def test_a_greater_machine(self):
        self.told([298, 299], starts, GREAT, "1" * 298)
        self.told(list(range(300)), starts, GREAT, "0" * 400)
        self.told([299], starts, GREAT, "1" * 299)

    def test_just_the_rooms_that_walk(self):
        for machine in machines_of(2):
            for row in ("", "0", "1", "01", "110", "0010"):
                wanted = [room for room in range(2) if walk(machine, room, row) is not None]
                self.assertEqual(repr(wanted), repr(starts(machine, row)))


class Trimmed(Asking):
    def test_nothing_to_trim(self):
        self.told((FULL, list(range(60))), trimmed, FULL)
        self.told((CYCLE, list(range(60))), trimmed, CYCLE)
        self.told((((0, None),), [0]), trimmed, ((0, None),))

    def test_without_rooms(self):
        self.told(((), []), trimmed, ())

    def test_nothing_is_left(self):
        self.told(((), []), trimmed, CHAIN)
        self.told(((), []), trimmed, ((None, None),))

    def test_leading_there_or_coming_from_there_is_not_enough(self):
        less = ((1, None), (0, 2), (3, 3), (3, None))
        self.told((less, [2, 3, 4, 5]), trimmed, LONG)

    def test_a_room_between_two_rings_stays(self):
        machine = ((0, 1), (None, 2), (2, None))
        self.told((machine, [0, 1, 2]), trimmed, machine)

    def test_a_chain_goes_step_by_step_at_both_ends(self):
        ahead = tuple((room + 1, None) for room in range(29))
        behind = tuple((room + 1, None) for room in range(30, 59)) + ((None, None),)
        self.told((((0, None),), [29]), trimmed, ahead + ((29, 30),) + behind)

    def test_rooms_are_numbered_anew(self):
        machine = ((None, None), (3, 0), (1, 3), (1, 3))
        self.told((((1, None), (0, 1)), [1, 3]), trimmed, machine)

    def test_all_small_machines(self):
        for machine in small_machines():
            numbers = endless_by_closure(machine)
            less = tuple(
                tuple(numbers.index(lead) if lead in numbers else None for lead in machine[room]) for room in numbers
            )
            self.assertEqual(repr((less, numbers)), repr(trimmed(machine)))


class Rings(Asking):
    def test_ordinary(self):
        self.told([[0, 1], [2]], rings, PLAIN)
        self.told([[2, 3], [5]], rings, LONG)

    def test_without_rooms(self):
        self.told([], rings, ())

    def test_one_room(self):
        self.told([], rings, ((None, None),))
        self.told([[0]], rings, ((0, None),))
        self.told([[0]], rings, ((None, 0),))
        self.told([[0]], rings, ((0, 0),))

    def test_one_ring_leads_to_the_other(self):
        self.told([[0, 1], [2, 3]], rings, ((1, None), (0, 2), (3, None), (2, None)))
        self.told([[0, 1], [2, 3]], rings, ((1, None), (0, None), (3, 0), (2, None)))

    def test_by_their_first_rooms(self):
        self.told([[0, 3], [1, 2]], rings, ((3, None), (2, None), (1, None), (0, None)))
        self.told([[0, 4], [1, 3], [2]], rings, ((4, 1), (3, 2), (2, None), (1, None), (0, None)))

    def test_rings_of_rings_are_one(self):
        self.told([[0, 1, 2]], rings, ((1, None), (0, 2), (1, None)))

    def test_60_rooms(self):
        self.told([list(range(60))], rings, FULL)
        self.told([list(range(60))], rings, CYCLE)
        self.told([], rings, CHAIN)
        self.told([[room] for room in range(60)], rings, tuple((room, room) for room in range(60)))
        self.told([[0, 59]], rings, ((59, None),) + ((None, 0),) * 58 + ((0, 0),))

    def test_all_small_machines(self):
        for machine in small_machines():
            self.assertEqual(repr(rings_by_closure(machine)), repr(rings(machine)))


class IsRing(Asking):
    def test_rings(self):
        for machine in (FULL, CYCLE, ((0, None),), ((None, 0),), ((0, 0),), ((1, 1), (None, 0))):
            self.told(True, is_ring, machine)

    def test_machines_that_are_none(self):
        for machine in ((), PLAIN, LONG, CHAIN, ((None, None),), ((0, None), (1, None)), ((1, None), (1, None))):
            self.told(False, is_ring, machine)

    def test_one_room_beside_a_ring(self):
        self.told(False, is_ring, ((1, None), (0, None), (0, None)))
        self.told(False, is_ring, ((1, 2), (0, None), (None, None)))
        self.told(False, is_ring, ((None, None), (2, None), (1, None)))

    def test_all_small_machines(self):
        for machine in small_machines():
            wanted = rings_by_closure(machine) == [list(range(len(machine)))]
            self.assertIs(wanted, is_ring(machine))

    def test_of_what_is_no_machine(self):
        things = [None, True, False, 0, 1, -1, "", "01", [], [(0, 0)], ([0, 0],), ((0,),), ((0, 0, 0),), (None,)]
        things += [((True, False),), ((False, False),), ((1, 1),), ((-1, 0),), (("0", "0"),), ((0, []),), ("00",), (0,)]
        things += [((1, 0), (True, 0)), ((1, 0), (0, -1)), ((1, 0), [0, 1]), ((1, 0), (0, (1,))), ((1, 0), (0, "1"))]
        for thing in things:
            self.told(False, is_ring, thing)

    def test_nested_deep(self):
        for thing in deep_things():
            self.assertIs(False, is_ring(thing))
            self.assertIs(False, is_ring((thing,)))
            self.assertIs(False, is_ring(((0, thing),)))


class Powered(Asking):
    def test_ordinary(self):
        self.told([[("0", 1), ("1", 2)], [("0", 0)], [("1", 2)]], powered, PLAIN, 1)
        self.told([[("00", 0), ("11", 2)], [("00", 1), ("01", 2)], [("11", 2)]], powered, PLAIN, 2)

    def test_of_no_bits(self):
        self.told([[("", 0)], [("", 1)], [("", 2)]], powered, PLAIN, 0)
        self.told([[("", 0)]], powered, ((None, None),), 0)

    def test_without_rooms(self):
        self.told([], powered, (), 0)
        self.told([], powered, (), 8)

    def test_a_room_that_leads_nowhere(self):
        self.told([[]], powered, ((None, None),), 1)
        self.told([[("0", 1)], []], powered, ((1, None), (None, None)), 1)
        self.told([[], []], powered, ((1, None), (None, None)), 2)

    def test_both_bits_to_one_room(self):
        self.told([[("0", 0), ("1", 0)]], powered, ((0, 0),), 1)
        self.told([[("00", 1), ("01", 1), ("10", 1), ("11", 1)], [("00", 1), ("01", 1), ("10", 1), ("11", 1)]],
                  powered, ((1, 1), (1, 1)), 2)

    def test_8_bits_and_60_rooms(self):
        rows = rows_of(8)
        wanted = [[(row, (room + 8 + 6 * row.count("1")) % 60) for row in rows] for room in range(60)]
        self.told(wanted, powered, FULL, 8)
        self.told([[("0" * 8, (room + 8) % 60)] for room in range(60)], powered, CYCLE, 8)
        self.told([[(row, room + 8) for row in rows] if room < 52 else [] for room in range(60)], powered, CHAIN, 8)

    def test_all_walks_of_small_machines(self):
        for machine in machines_of(2):
            for many in (0, 1, 2, 3, 5):
                wanted = [
                    [(row, walk(machine, room, row)) for row in rows_of(many) if walk(machine, room, row) is not None]
                    for room in range(2)
                ]
                self.assertEqual(repr(wanted), repr(powered(machine, many)))


if __name__ == "__main__":
    unittest.main()
