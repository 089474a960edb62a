import copy
import random
import time
import unittest

from handsapart.errors import NoHouse, NoMachine
from handsapart.judging import judged
from handsapart.machines import least, lets
from tests.samples import (
    HEAP_HOUSES, HOUSE, MANY_FREE, NO_HOUSES, NO_MACHINES, NONE_FREE, ODD_THINGS, ONE_LETTER, RING, TWO_LETTERS, WIDE,
    all_machines, exchanged, free, free_places, letters, random_machines, renumbered, rows_up_to,
)

# Room 2 * i + j: i letters a and j letters b, each modulo 2; c leads to room 0.
BOTH_ODD = ([[2, 1, 0], [3, 0, 0], [0, 3, 0], [1, 2, 0]], [3])
# Lets "ab" by, and not "ba".
A_AHEAD = ([[1, 2, 2], [2, 3, 2], [2, 2, 2], [2, 2, 2]], [3])


def first_torn(house, machine, length):
    """By going through all rows of at most so many letters."""
    good = {}
    rooms = {"": 0}
    for row in rows_up_to(house, length):
        if row:
            rooms[row] = machine[0][rooms[row[:-1]]][letters(house).index(row[-1])]
        good[row] = rooms[row] in machine[1]
    for row in good:
        for place in free_places(house, row):
            if good[row] != good[exchanged(row, place)]:
                return (row, place)
    return None


def counting_machine(sizes, good):
    """Keeps for each letter how often it came, modulo its size: no order matters."""
    rooms = [()]
    for size in sizes:
        rooms = [room + (count,) for room in rooms for count in range(size)]
    moves = []
    for room in rooms:
        follows = []
        for i, size in enumerate(sizes):
            follows.append(rooms.index(room[:i] + ((room[i] + 1) % size,) + room[i + 1:]))
        moves.append(follows)
    return (moves, [i for i, room in enumerate(rooms) if good(room)])


def late_machine(ahead, behind):
    """In HOUSE: so many letters c, then a and b whose order matters, then so many letters c until it shows."""
    one, other, lost, first = ahead + 1, ahead + 2, ahead + 3, ahead + 4
    moves = [[room, room, room + 1] for room in range(ahead)]
    moves += [[one, other, lost], [one, first, lost], [lost, other, lost], [lost, lost, lost]]
    moves += [[room, room, min(room + 1, first + behind)] for room in range(first, first + behind + 1)]
    return (moves, [first + behind])


class TestJudged(unittest.TestCase):
    def test_torn(self):
        self.assertEqual(judged(HOUSE, A_AHEAD), ("ab", 0))
        self.assertEqual(judged(TWO_LETTERS, ([[1, 2], [2, 3], [2, 2], [2, 2]], [3])), ("by", 0))

    def test_lets_only_the_later_row_by(self):
        self.assertEqual(judged(HOUSE, ([[2, 1, 2], [3, 2, 2], [2, 2, 2], [2, 2, 2]], [3])), ("ab", 0))

    def test_one_room(self):
        for house in HEAP_HOUSES:
            for good in [[], [0]]:
                self.assertIsNone(judged(house, ([[0] * len(house[1])], good)))

    def test_no_free_letters(self):
        for house in [NONE_FREE, ONE_LETTER]:
            for machine in random_machines(house, 60, 30):
                self.assertIsNone(judged(house, machine))

    def test_free_letters_that_commute(self):
        self.assertIsNone(judged(HOUSE, BOTH_ODD))
        machine = counting_machine([2, 3, 1, 2, 2, 1], lambda room: sum(room) == 3)
        self.assertIsNone(judged(MANY_FREE, machine))
        machine = counting_machine([3, 3, 3, 1], lambda room: room[0] == room[2])
        self.assertIsNone(judged(RING, machine))

    def test_rooms_that_no_row_leads_to(self):
        moves = BOTH_ODD[0] + [[5, 6, 6], [6, 7, 6], [6, 6, 6], [6, 6, 6]]
        self.assertIsNone(judged(HOUSE, (moves, [3, 7])))
        moves = [list(follows) for follows in moves]
        moves[3][2] = 4
        self.assertEqual(judged(HOUSE, (moves, [3, 7])), ("abcab", 3))

    def test_rooms_that_nothing_tells_apart(self):
        moves = A_AHEAD[0]
        for good in [[], [0, 1, 2, 3]]:
            self.assertIsNone(judged(HOUSE, (moves, good)))
        # Rooms 3 and 4 do the same, so it doesn't matter that "ab" and "ba" lead to unlike ones.
        machine = ([[1, 2, 0], [1, 3, 0], [4, 2, 0], [4, 3, 0], [3, 4, 0]], [3, 4])
        self.assertIsNone(judged(HOUSE, machine))

    def test_late_ones(self):
        for ahead in [0, 1, 2, 9, 20]:
            for behind in [0, 1, 5]:
                due = ("c" * ahead + "ab" + "c" * behind, ahead)
                self.assertEqual(judged(HOUSE, late_machine(ahead, behind)), due)
        self.assertEqual(judged(HOUSE, late_machine(0, 25)), ("ab" + "c" * 25, 0))

    def test_the_shortest_is_ahead_of_an_earlier_row(self):
        # "aab" is torn, too, but longer than "cab".
        machine = ([[4, 0, 1], [2, 3, 3], [3, 5, 3], [3, 3, 3], [4, 4, 1], [3, 3, 3]], [5])
        self.assertEqual(judged(HOUSE, machine), first_torn(HOUSE, machine, 6))
        self.assertEqual(judged(HOUSE, machine), ("cab", 1))

    def test_of_several_rows_the_first_and_in_it_the_least_place(self):
        # Lets by "abab" alone: it is torn at 0, at 1 and at 2; "aabb" is ahead of it, torn at 1 alone.
        machine = ([[1, 5, 5], [5, 2, 5], [3, 5, 5], [5, 4, 5], [5, 5, 5], [5, 5, 5]], [4])
        self.assertEqual(judged(HOUSE, machine), ("aabb", 1))
        # Lets by "baba" alone: one exchange makes "abba" of it, or "bbaa", or "baab".
        machine = ([[5, 1, 5], [2, 5, 5], [5, 3, 5], [4, 5, 5], [5, 5, 5], [5, 5, 5]], [4])
        self.assertEqual(judged(HOUSE, machine), ("abba", 0))
        # Lets by "abc" alone, which is torn at 0 and at 1.
        house = (3, [("a", [0]), ("b", [1]), ("c", [2])])
        machine = ([[1, 4, 4], [4, 2, 4], [4, 4, 3], [4, 4, 4], [4, 4, 4]], [3])
        self.assertEqual(judged(house, machine), ("abc", 0))

    def test_all_small_machines(self):
        # Of n rooms, n - 1 letters lead to each room, and n - 1 tell each two apart.
        for machine in all_machines(HOUSE, 2):
            self.assertEqual(judged(HOUSE, machine), first_torn(HOUSE, machine, 4), machine)
        for i, machine in enumerate(all_machines(TWO_LETTERS, 3)):
            if i % 7 == 0:
                self.assertEqual(judged(TWO_LETTERS, machine), first_torn(TWO_LETTERS, machine, 6), machine)

    def test_drawn_machines(self):
        for house, most, length in [(HOUSE, 3, 6), (RING, 2, 4), (MANY_FREE, 2, 4), (WIDE, 2, 4)]:
            for machine in random_machines(house, 40, most):
                self.assertEqual(judged(house, machine), first_torn(house, machine, length), machine)

    def test_machines_nearly_untorn(self):
        # One move of a machine in which nothing is torn goes elsewhere.
        base = counting_machine([2, 2], lambda room: room == (1, 1))
        answers = []
        for room in range(4):
            for letter in range(2):
                for follow in range(4):
                    machine = copy.deepcopy(base)
                    machine[0][room][letter] = follow
                    answers.append(judged(TWO_LETTERS, machine))
                    self.assertEqual(answers[-1], first_torn(TWO_LETTERS, machine, 8), machine)
        self.assertIn(None, answers)
        self.assertGreater(len(set(answers)), 5)

    def test_what_is_told_is_so_for_machines_of_many_rooms(self):
        found = 0
        for house in HEAP_HOUSES:
            for machine in random_machines(house, 60, 30):
                told = judged(house, machine)
                self.assertEqual(told, judged(house, least(house, machine)))
                if told is not None:
                    row, place = told
                    found += 1
                    self.assertTrue(free(house, row[place], row[place + 1]))
                    self.assertNotEqual(lets(house, machine, row), lets(house, machine, exchanged(row, place)))
        self.assertGreater(found, 100)

    def test_rooms_numbered_otherwise(self):
        chance = random.Random(5)
        for machine in random_machines(MANY_FREE, 40, 12):
            rest = list(range(1, len(machine[0])))
            chance.shuffle(rest)
            self.assertEqual(judged(MANY_FREE, renumbered(machine, [0] + rest)), judged(MANY_FREE, machine))

    def test_thirty_rooms_and_six_letters_within_a_short_time(self):
        chance = random.Random(11)
        begun = time.process_time()
        for i in range(10):
            orders = [chance.sample(range(30), 30) for letter in range(6)]
            machine = ([[order[room] for order in orders] for room in range(30)], [chance.randrange(30)])
            judged(MANY_FREE, machine)
        for machine in [
            ([[chance.randrange(30) for letter in range(6)] for room in range(30)], [29]),
            ([[(room + 1) % 30] * 6 for room in range(30)], [29]),
            ([[min(room + 1, 29)] * 6 for room in range(30)], [29]),
            ([[min(room + 1, 29)] + [room] * 5 for room in range(30)], [29]),
            counting_machine([5, 3, 2, 1, 1, 1], lambda room: room == (4, 2, 1, 0, 0, 0)),
        ]:
            judged(MANY_FREE, machine)
        self.assertLess(time.process_time() - begun, 20)

    def test_a_long_torn_row(self):
        # Letters c go round through coprime circles: the two rooms behind the fork part only after many letters.
        house = (3, [("a", [0]), ("b", [1]), ("c", [2])])
        moves = [[1, 2, 0], [1, 3, 1], [14, 2, 2]]
        moves += [[room, room, 3 + (room - 2) % 11] for room in range(3, 14)]
        moves += [[room, room, 14 + (room - 13) % 13] for room in range(14, 27)]
        machine = (moves, [13, 26])
        row, place = judged(house, machine)
        self.assertEqual((row, place), ("ab" + "c" * 10, 0))
        self.assertNotEqual(lets(house, machine, row), lets(house, machine, "ba" + "c" * 10))


class TestRefusals(unittest.TestCase):
    def test_no_house_is_first(self):
        for house in NO_HOUSES + ODD_THINGS:
            for machine in [A_AHEAD, None]:
                with self.assertRaises(NoHouse, msg=repr(house)):
                    judged(house, machine)

    def test_no_machine(self):
        for machine in NO_MACHINES + ODD_THINGS:
            with self.assertRaises(NoMachine, msg=repr(machine)):
                judged(HOUSE, machine)
        with self.assertRaises(NoMachine):
            judged(WIDE, A_AHEAD)

    def test_what_is_handed_in_stays(self):
        for machine in [A_AHEAD, BOTH_ODD, late_machine(2, 2)]:
            house, kept = copy.deepcopy((HOUSE, machine))
            judged(house, kept)
            self.assertEqual((house, kept), (HOUSE, machine))

    def test_a_changed_machine_answers_anew(self):
        machine = copy.deepcopy(A_AHEAD)
        self.assertEqual(judged(HOUSE, machine), ("ab", 0))
        machine[1].clear()
        self.assertIsNone(judged(HOUSE, machine))
        house = copy.deepcopy(HOUSE)
        self.assertEqual(judged(house, A_AHEAD), ("ab", 0))
        house[1][0][1].append(1)
        self.assertIsNone(judged(house, A_AHEAD))
