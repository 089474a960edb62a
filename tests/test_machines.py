import copy
import random
import unittest

from handsapart.errors import NoHouse, NoMachine, NoRoom, NoRow
from handsapart.machines import is_machine, least, led, lets, told_apart
from tests.samples import (
    BIG, HOUSE, HOUSES, NO_HOUSES, NO_MACHINES, NO_ROWS, ODD_THINGS, ONE_LETTER, TWO_LETTERS, WIDE, all_machines,
    lists_in, nest, random_machines, renumbered, rows_up_to, walk,
)

# Lets rows by that have an odd number of letters a; rooms 2 and 3 do as 0 and 1, and no row leads to 4.
ODD_A = ([[1, 2, 0], [2, 3, 1], [3, 0, 2], [0, 1, 3], [4, 0, 1]], [1, 3])
LEAST_ODD_A = ([[1, 0, 0], [0, 1, 1]], [1])
# Lets by the row of 29 letters and all longer ones.
CHAIN = ([[min(room + 1, 29)] for room in range(30)], [29])

NO_ROOMS = [
    True, False, None, -1, -5, 5, 6, BIG, -BIG, "0", "", "a", [0], (0,), [], (), [1, 2], nest(16),
]


def same_rows(house, one, other):
    """Whether two machines let the same rows by, by going through all pairs of rooms."""
    pairs = [(0, 0)]
    for first, second in pairs:
        if (first in one[1]) != (second in other[1]):
            return False
        for i in range(len(house[1])):
            pair = (one[0][first][i], other[0][second][i])
            if pair not in pairs:
                pairs.append(pair)
    return True


def reached(machine):
    rooms = [0]
    for room in rooms:
        for follow in machine[0][room]:
            if follow not in rooms:
                rooms.append(follow)
    return rooms


def fewest_rooms(house, machine):
    """How many reached rooms rows tell apart: of n rooms, rows of n letters are long enough."""
    rows = list(rows_up_to(house, len(machine[0])))
    return len({tuple(walk(house, machine, room, row) in machine[1] for row in rows) for room in reached(machine)})


def first_row_apart(house, machine, one, other):
    for row in rows_up_to(house, len(machine[0])):
        if (walk(house, machine, one, row) in machine[1]) != (walk(house, machine, other, row) in machine[1]):
            return row
    return None


class TestIsMachine(unittest.TestCase):
    def test_ordinary_machines(self):
        self.assertIs(is_machine(HOUSE, ODD_A), True)
        self.assertIs(is_machine(HOUSE, LEAST_ODD_A), True)
        for house in HOUSES:
            for machine in random_machines(house, 60, 30):
                self.assertIs(is_machine(house, machine), True)

    def test_one_room_and_thirty_rooms(self):
        for rooms in [1, 2, 29, 30]:
            moves = [[rooms - 1, 0, room] for room in range(rooms)]
            for good in [[], [0], [rooms - 1], list(range(rooms))]:
                self.assertIs(is_machine(HOUSE, (moves, good)), True)

    def test_one_letter_and_six_letters(self):
        self.assertIs(is_machine(ONE_LETTER, ([[0]], [0])), True)
        self.assertIs(is_machine(WIDE, ([[0] * 6], [0])), True)
        self.assertIs(is_machine(WIDE, ([[0] * 5], [0])), False)
        self.assertIs(is_machine(WIDE, ([[0] * 7], [0])), False)
        self.assertIs(is_machine(ONE_LETTER, ([[]], [0])), False)

    def test_no_machines(self):
        for thing in NO_MACHINES + ODD_THINGS + HOUSES + [nest(8), nest(9), [ODD_A], (ODD_A, ODD_A)]:
            self.assertIs(is_machine(HOUSE, thing), False, thing)

    def test_no_house_comes_first(self):
        for house in NO_HOUSES + ODD_THINGS:
            for thing in [ODD_A, None]:
                with self.assertRaises(NoHouse, msg=repr(house)):
                    is_machine(house, thing)

    def test_what_is_handed_in_stays(self):
        house = copy.deepcopy(HOUSE)
        for thing in NO_MACHINES + [ODD_A]:
            kept = copy.deepcopy(thing)
            is_machine(house, thing)
            self.assertEqual(repr(thing), repr(kept))
        self.assertEqual(house, HOUSE)

    def test_a_changed_list_is_looked_at_anew(self):
        machine = copy.deepcopy(ODD_A)
        self.assertIs(is_machine(HOUSE, machine), True)
        machine[0][4][0] = 5
        self.assertIs(is_machine(HOUSE, machine), False)


class TestRefusals(unittest.TestCase):
    def asked(self, house, machine, room, row):
        return [
            lambda: led(house, machine, room, row), lambda: lets(house, machine, row), lambda: least(house, machine),
            lambda: told_apart(house, machine, room, room),
        ]

    def test_no_house_is_ahead_of_all_else(self):
        for house in NO_HOUSES + ODD_THINGS:
            for machine, room, row in [(ODD_A, 0, "a"), (None, None, None)]:
                for ask in self.asked(house, machine, room, row):
                    with self.assertRaises(NoHouse, msg=repr(house)):
                        ask()

    def test_no_machine_is_right_behind(self):
        for machine in NO_MACHINES + ODD_THINGS:
            for room, row in [(0, "a"), (99, "?"), (None, None)]:
                for ask in self.asked(HOUSE, machine, room, row):
                    with self.assertRaises(NoMachine, msg=repr(machine)):
                        ask()

    def test_a_machine_of_another_house_is_none(self):
        for ask in self.asked(WIDE, ODD_A, 0, "a"):
            with self.assertRaises(NoMachine):
                ask()

    def test_led_refuses_no_room_ahead_of_no_row(self):
        for room in NO_ROOMS:
            for row in ["", "abc", "d", None]:
                with self.assertRaises(NoRoom, msg=repr(room)):
                    led(HOUSE, ODD_A, room, row)

    def test_no_row(self):
        for row in NO_ROWS:
            with self.assertRaises(NoRow, msg=repr(row)):
                led(HOUSE, ODD_A, 4, row)
            with self.assertRaises(NoRow, msg=repr(row)):
                lets(HOUSE, ODD_A, row)

    def test_told_apart_refuses_no_room_in_either_place(self):
        for room in NO_ROOMS:
            for one, other in [(room, 0), (0, room), (4, room), (room, room)]:
                with self.assertRaises(NoRoom, msg=repr(room)):
                    told_apart(HOUSE, ODD_A, one, other)

    def test_what_is_refused_changes_nothing(self):
        house, machine, room, row = copy.deepcopy((HOUSE, ODD_A, [0], ["a"]))
        for ask in self.asked(house, machine, room, row)[:2] + self.asked(house, machine, room, row)[3:]:
            with self.assertRaises((NoRoom, NoRow)):
                ask()
        self.assertEqual((house, machine, room, row), (HOUSE, ODD_A, [0], ["a"]))


class TestLedAndLets(unittest.TestCase):
    def test_the_row_without_letters(self):
        for room in range(5):
            self.assertEqual(led(HOUSE, ODD_A, room, ""), room)
        self.assertIs(lets(HOUSE, ODD_A, ""), False)
        self.assertIs(lets(HOUSE, ([[0, 0, 0]], [0]), ""), True)

    def test_ordinary_rows(self):
        self.assertEqual(led(HOUSE, ODD_A, 0, "a"), 1)
        self.assertEqual(led(HOUSE, ODD_A, 0, "ab"), 3)
        self.assertEqual(led(HOUSE, ODD_A, 4, "aac"), 1)
        self.assertEqual(led(HOUSE, ODD_A, 4, "ba"), 1)
        self.assertEqual(led(HOUSE, ODD_A, 3, "ccba"), 2)
        self.assertIs(lets(HOUSE, ODD_A, "a"), True)
        self.assertIs(lets(HOUSE, ODD_A, "aba"), False)
        self.assertIs(lets(HOUSE, ODD_A, "cabacabc"), True)

    def test_all_short_rows_lead_along_moves(self):
        for house in HOUSES:
            for machine in random_machines(house, 8, 7):
                for row in rows_up_to(house, 3):
                    for room in range(len(machine[0])):
                        self.assertEqual(led(house, machine, room, row), walk(house, machine, room, row))
                    self.assertIs(lets(house, machine, row), walk(house, machine, 0, row) in machine[1])

    def test_long_rows(self):
        self.assertEqual(led(ONE_LETTER, CHAIN, 0, "q" * 28), 28)
        self.assertIs(lets(ONE_LETTER, CHAIN, "q" * 28), False)
        self.assertIs(lets(ONE_LETTER, CHAIN, "q" * 29), True)
        self.assertIs(lets(ONE_LETTER, CHAIN, "q" * 40), True)

    def test_no_good_room_and_all_rooms_good(self):
        for row in rows_up_to(HOUSE, 3):
            self.assertIs(lets(HOUSE, (ODD_A[0], []), row), False)
            self.assertIs(lets(HOUSE, (ODD_A[0], [0, 1, 2, 3, 4]), row), True)

    def test_what_is_handed_in_stays(self):
        house, machine = copy.deepcopy((HOUSE, ODD_A))
        led(house, machine, 3, "abc")
        lets(house, machine, "abc")
        self.assertEqual((house, machine), (HOUSE, ODD_A))

    def test_a_changed_machine_answers_anew(self):
        machine = copy.deepcopy(ODD_A)
        self.assertIs(lets(HOUSE, machine, "a"), True)
        machine[1].remove(1)
        machine[0][0][1] = 4
        self.assertIs(lets(HOUSE, machine, "a"), False)
        self.assertEqual(led(HOUSE, machine, 0, "b"), 4)


class TestLeast(unittest.TestCase):
    def check(self, house, machine):
        told = least(house, machine)
        self.assertIs(is_machine(house, told), True, machine)
        self.assertTrue(same_rows(house, machine, told), machine)
        self.assertEqual(reached(told), list(range(len(told[0]))), machine)
        return told

    def test_rooms_not_reached_and_rooms_not_told_apart(self):
        self.assertEqual(least(HOUSE, ODD_A), LEAST_ODD_A)
        self.assertEqual(least(HOUSE, ([[0, 0, 0], [0, 1, 0]], [1])), ([[0, 0, 0]], []))
        self.assertEqual(least(TWO_LETTERS, ([[1, 2], [2, 1], [1, 2]], [0, 1, 2])), ([[0, 0]], [0]))

    def test_a_room_that_is_not_reached_but_like_a_reached_one(self):
        self.assertEqual(least(ONE_LETTER, ([[2], [2], [0]], [0, 1])), ([[1], [0]], [0]))

    def test_rooms_parted_only_late(self):
        self.assertEqual(least(ONE_LETTER, ([[1], [2], [3], [3]], [3])), ([[1], [2], [3], [3]], [3]))

    def test_one_room(self):
        for good in [[], [0]]:
            self.assertEqual(least(HOUSE, ([[0, 0, 0]], good)), ([[0, 0, 0]], good))

    def test_no_good_room_and_all_rooms_good(self):
        for house in HOUSES:
            width = len(house[1])
            for machine in random_machines(house, 30, 30):
                self.assertEqual(least(house, (machine[0], [])), ([[0] * width], []))
                every = list(range(len(machine[0])))
                self.assertEqual(least(house, (machine[0], every)), ([[0] * width], [0]))

    def test_numbered_as_met(self):
        machine = ([[2, 1], [1, 1], [3, 0], [3, 2]], [1, 3])
        self.assertEqual(least(TWO_LETTERS, machine), ([[1, 2], [3, 0], [2, 2], [3, 1]], [2, 3]))

    def test_thirty_rooms(self):
        self.assertEqual(least(ONE_LETTER, CHAIN), CHAIN)
        order = [0] + list(range(29, 0, -1))
        self.assertEqual(least(ONE_LETTER, renumbered(CHAIN, order)), CHAIN)

    def test_all_small_machines(self):
        for rooms in [1, 2]:
            for machine in all_machines(HOUSE, rooms):
                self.assertEqual(len(self.check(HOUSE, machine)[0]), fewest_rooms(HOUSE, machine), machine)
        for rooms in [1, 2, 3]:
            for machine in all_machines(TWO_LETTERS, rooms):
                self.assertEqual(len(self.check(TWO_LETTERS, machine)[0]), fewest_rooms(TWO_LETTERS, machine), machine)
        for rooms in [1, 2, 3, 4]:
            for machine in all_machines(ONE_LETTER, rooms):
                self.assertEqual(len(self.check(ONE_LETTER, machine)[0]), fewest_rooms(ONE_LETTER, machine), machine)

    def test_the_least_of_the_least_is_itself(self):
        for house in HOUSES:
            for machine in random_machines(house, 60, 30):
                told = self.check(house, machine)
                self.assertEqual(least(house, told), told)

    def test_no_two_rooms_of_the_least_are_left_together(self):
        for machine in random_machines(TWO_LETTERS, 60, 12):
            told = least(TWO_LETTERS, machine)
            for one in range(len(told[0])):
                for other in range(one):
                    self.assertIsNotNone(told_apart(TWO_LETTERS, told, one, other))

    def test_rooms_numbered_otherwise(self):
        chance = random.Random(3)
        for house in HOUSES:
            for machine in random_machines(house, 30, 30):
                rest = list(range(1, len(machine[0])))
                chance.shuffle(rest)
                self.assertEqual(least(house, renumbered(machine, [0] + rest)), least(house, machine))

    def test_what_is_handed_in_stays(self):
        house, machine = copy.deepcopy((HOUSE, ODD_A))
        least(house, machine)
        self.assertEqual((house, machine), (HOUSE, ODD_A))

    def test_the_told_lists_are_new_and_the_askers_own(self):
        for machine in [copy.deepcopy(ODD_A), copy.deepcopy(LEAST_ODD_A), ([[0, 0, 0], [1, 1, 1]], [0])]:
            kept = copy.deepcopy(machine)
            told, again = least(HOUSE, machine), least(HOUSE, machine)
            due = copy.deepcopy(told)
            every = lists_in(told) + lists_in(again) + lists_in(machine)
            self.assertEqual(len({id(one) for one in every}), len(every))
            for one in lists_in(told):
                one.append(9)
            self.assertEqual(machine, kept)
            self.assertEqual(again, due)
            self.assertEqual(least(HOUSE, machine), due)

    def test_later_changes_of_the_machine_leave_what_was_told(self):
        machine = copy.deepcopy(LEAST_ODD_A)
        told = least(HOUSE, machine)
        machine[0][0][0] = 0
        machine[1].append(0)
        self.assertEqual(told, LEAST_ODD_A)


class TestToldApart(unittest.TestCase):
    def test_row_without_letters(self):
        self.assertEqual(told_apart(HOUSE, ODD_A, 0, 1), "")
        self.assertEqual(told_apart(HOUSE, ODD_A, 3, 4), "")

    def test_one_letter(self):
        machine = ([[1, 1, 1], [1, 1, 1], [0, 1, 3], [3, 3, 3]], [3])
        self.assertEqual(told_apart(HOUSE, machine, 0, 2), "c")
        self.assertEqual(told_apart(HOUSE, machine, 2, 0), "c")

    def test_of_several_shortest_rows_the_first(self):
        machine = ([[0, 2, 2], [1, 1, 1], [2, 2, 2]], [2])
        self.assertEqual(told_apart(HOUSE, machine, 0, 1), "b")
        # Both "ba" and "ab" tell 0 and 5 apart, and so does the longer "aaa".
        machine = ([[1, 2, 4], [3, 6, 4], [6, 4, 4], [6, 4, 4], [4, 4, 4], [4, 4, 4], [6, 6, 6]], [6])
        self.assertEqual(told_apart(HOUSE, machine, 0, 5), "ab")
        self.assertEqual(told_apart(HOUSE, machine, 5, 0), "ab")

    def test_a_shorter_row_is_ahead_of_an_earlier_one(self):
        machine = ([[1, 3], [3, 2], [2, 2], [3, 3]], [3])
        self.assertEqual(told_apart(TWO_LETTERS, machine, 0, 2), "y")

    def test_longer_rows(self):
        self.assertEqual(told_apart(ONE_LETTER, CHAIN, 0, 1), "q" * 28)
        self.assertEqual(told_apart(ONE_LETTER, CHAIN, 28, 0), "q")
        self.assertEqual(told_apart(ONE_LETTER, CHAIN, 5, 20), "q" * 9)

    def test_none(self):
        self.assertIsNone(told_apart(HOUSE, ODD_A, 0, 2))
        self.assertIsNone(told_apart(HOUSE, ODD_A, 3, 1))
        self.assertIsNone(told_apart(HOUSE, (ODD_A[0], []), 0, 1))

    def test_a_room_with_itself(self):
        for house in HOUSES:
            for machine in random_machines(house, 10, 10):
                for room in range(len(machine[0])):
                    self.assertIsNone(told_apart(house, machine, room, room))

    def test_rooms_that_no_row_leads_to(self):
        machine = ([[0], [2], [2], [0]], [2])
        self.assertEqual(told_apart(ONE_LETTER, machine, 1, 3), "q")
        self.assertIsNone(told_apart(ONE_LETTER, machine, 0, 3))

    def test_against_all_rows_in_order(self):
        cases = [(ONE_LETTER, machine) for machine in random_machines(ONE_LETTER, 30, 9)]
        cases += [(TWO_LETTERS, machine) for machine in random_machines(TWO_LETTERS, 30, 6)]
        cases += [(HOUSE, machine) for machine in random_machines(HOUSE, 30, 5)]
        cases += [(TWO_LETTERS, machine) for machine in all_machines(TWO_LETTERS, 2)]
        for house, machine in cases:
            for one in range(len(machine[0])):
                for other in range(len(machine[0])):
                    due = first_row_apart(house, machine, one, other)
                    self.assertEqual(told_apart(house, machine, one, other), due, (machine, one, other))

    def test_what_is_handed_in_stays(self):
        house, machine = copy.deepcopy((HOUSE, ODD_A))
        told_apart(house, machine, 4, 2)
        self.assertEqual((house, machine), (HOUSE, ODD_A))

    def test_a_changed_machine_answers_anew(self):
        machine = copy.deepcopy(ODD_A)
        self.assertIsNone(told_apart(HOUSE, machine, 0, 2))
        machine[1].append(4)
        machine[0][2][2] = 4
        self.assertEqual(told_apart(HOUSE, machine, 0, 2), "c")
