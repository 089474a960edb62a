import copy
import random
import unittest

from handsapart.errors import NoHouse, NoMachine, NoRow, Torn
from handsapart.judging import judged
from handsapart.machines import least
from handsapart.memory import deed_done, no_deeds, room_of
from handsapart.news import no_news
from tests.reckoned import Reckoned
from tests.samples import (
    ALL_FREE, GOSSIP, HOUSE, IDLE_HAND, LINE, NEWS_HOUSES, NO_HOUSES, NO_LETTERS, NO_MACHINES, ODD_THINGS, RING, THREE,
    WIDE, letters, random_machines, random_row, random_rows, rows_up_to, shuffled, walk,
)
from tests.untorn import A_AHEAD, BOTH_ODD, TORN, hands_turning, states_for, untorn_machines


def told_along(house, machine, row):
    """For each size the memories of all hands, by what is told alone; and the deeds' names."""
    memories = [no_deeds(house, machine)] * house[0]
    along = [memories]
    names = []
    for letter in row:
        hands = dict(house[1])[letter]
        name, behind = deed_done(house, machine, letter, [memories[hand] for hand in hands])
        names.append(name)
        memories = [behind if hand in hands else memories[hand] for hand in range(house[0])]
        along.append(memories)
    return along, names


class MemoryCase(unittest.TestCase):
    def check(self, house, machine, row):
        reckoned = Reckoned(house, row)
        along, names = told_along(house, machine, row)
        self.assertEqual(names, reckoned.names, (house, machine, row))
        smallest = least(house, machine)
        room = 0
        for size, memories in enumerate(along):
            for hand in range(house[0]):
                due = reckoned.memory(house, smallest, hand, size)
                self.assertEqual(memories[hand], due, (house, machine, row, size, hand))
            self.assertEqual(room_of(house, machine, memories), room, (house, machine, row, size))
            if size < len(row):
                room = walk(house, smallest, room, row[size])


class TestNoDeeds(MemoryCase):
    def test_one(self):
        stay = (0, 1, 2, 3)
        self.assertEqual(no_deeds(HOUSE, BOTH_ODD), (no_news(HOUSE), (stay,) * 4))

    def test_rooms_are_those_of_the_least_machine(self):
        self.assertEqual(no_deeds(HOUSE, (BOTH_ODD[0], []))[1], ((0,),) * 4)
        self.assertEqual(no_deeds(WIDE, ([[0] * 6] * 30, list(range(30))))[1], ((0,),) * 16)

    def test_each_house(self):
        for house in NEWS_HOUSES:
            for machine in untorn_machines(house, 1):
                count = len(least(house, machine)[0])
                told = no_deeds(house, machine)
                self.assertEqual(told, (no_news(house), (tuple(range(count)),) * 2 ** house[0]))
                self.assertEqual(room_of(house, machine, [told] * house[0]), 0)


class TestDeedDone(MemoryCase):
    def test_first_deeds(self):
        none = no_deeds(HOUSE, BOTH_ODD)
        # In the least machine: 0 even and even, 1 odd a, 2 odd b, 3 both.
        name, memory = deed_done(HOUSE, BOTH_ODD, "a", [none])
        self.assertEqual(name, ("a", 0))
        self.assertEqual(memory[1], ((1, 0, 3, 2), (0, 1, 2, 3), (1, 0, 3, 2), (0, 1, 2, 3)))
        name, memory = deed_done(HOUSE, BOTH_ODD, "c", [none, memory])
        self.assertEqual(name, ("c", 0))
        self.assertEqual(memory[1], ((0, 0, 0, 0), (0, 1, 2, 3), (0, 1, 2, 3), (0, 1, 2, 3)))

    def test_sets_are_numbered_by_their_hands(self):
        # Hand 1 hears of a by hand 0 and of e by hand 2: its changes beyond each set of the two.
        house = (3, [("a", [0]), ("b", [0, 1]), ("c", [1]), ("d", [1, 2]), ("e", [2])])
        chance = random.Random(3)
        machine = hands_turning(chance, house, [3, 3, 3])
        smallest = least(house, machine)
        memory = told_along(house, machine, "aebdc")[0][-1][1]
        ways = {0: "aebdc", 1: "edc", 4: "c", 5: "c", 2: "", 3: "", 6: "", 7: ""}
        for number, row in ways.items():
            due = tuple(walk(house, smallest, room, row) for room in range(len(smallest[0])))
            self.assertEqual(memory[1][number], due, number)

    def test_kinds(self):
        for house in [HOUSE, THREE, WIDE]:
            for machine in untorn_machines(house, 2):
                smallest = least(house, machine)
                name, memory = deed_done(house, machine, "a", [no_deeds(house, machine)])
                self.assertEqual((type(name), type(memory), len(memory)), (tuple, tuple, 2))
                self.assertIs(type(memory[1]), tuple)
                self.assertEqual(len(memory[1]), 2 ** house[0])
                for change in memory[1]:
                    self.assertIs(type(change), tuple)
                    self.assertEqual(len(change), len(smallest[0]))

    def test_all_short_rows(self):
        for house, length in [(HOUSE, 4), (THREE, 3), (RING, 3), (IDLE_HAND, 3), (GOSSIP, 2)]:
            for machine in untorn_machines(house, 4)[:2]:
                for row in rows_up_to(house, length):
                    self.check(house, machine, row)

    def test_machines_of_each_kind(self):
        for house in NEWS_HOUSES:
            for seed in [5, 6]:
                for machine in untorn_machines(house, seed):
                    for row in random_rows(house, 1, 14 + seed):
                        self.check(house, machine, row)

    def test_drawn_rows(self):
        for house in NEWS_HOUSES:
            machine = hands_turning(random.Random(8), house, states_for(house))
            for row in random_rows(house, 2, 40):
                self.check(house, machine, row)

    def test_long_rows(self):
        for house in [HOUSE, THREE, GOSSIP, LINE]:
            machine = hands_turning(random.Random(9), house, states_for(house))
            for row in random_rows(house, 1, 150):
                self.check(house, machine, row)

    def test_drawn_houses(self):
        chance = random.Random(10)
        for i in range(40):
            hands = chance.choice([2, 3, 4])
            own = [sorted(chance.sample(range(hands), chance.randint(1, min(hands, 3)))) for letter in "abcdef"]
            house = (hands, list(zip("abcdef", own))[:chance.randint(2, 6)])
            machine = hands_turning(chance, house, states_for(house))
            self.check(house, machine, random_row(chance, house, 30))

    def test_all_rows_of_a_heap_lead_each_hand_to_the_same_memory(self):
        chance = random.Random(11)
        for house in NEWS_HOUSES:
            for machine in untorn_machines(house, 12)[:3]:
                for row in random_rows(house, 1, 24):
                    other = shuffled(chance, house, row, 200)
                    one, two = [told_along(house, machine, text)[0][-1] for text in (row, other)]
                    self.assertEqual(one, two)

    def test_hangs_on_the_memories_of_the_letters_hands_alone(self):
        machine = hands_turning(random.Random(13), GOSSIP, states_for(GOSSIP))
        along = told_along(GOSSIP, machine, "aab")[0][-1]
        other = told_along(GOSSIP, machine, "aabcc")[0][-1]
        self.assertEqual(along[:2], other[:2])
        self.assertNotEqual(along[2], other[2])

    def test_two_machines_that_let_the_same_rows_by(self):
        for house in [HOUSE, THREE, RING]:
            turned, small, double = untorn_machines(house, 14)[:3]
            for row in random_rows(house, 2, 12):
                self.assertEqual(told_along(house, small, row), told_along(house, double, row))
                told = told_along(house, least(house, turned), row)
                self.assertEqual(told, told_along(house, turned, row))


class TestRoomOf(MemoryCase):
    def test_some_rows(self):
        for row, room in [("", 0), ("a", 1), ("b", 2), ("ab", 3), ("ba", 3), ("aba", 2), ("abc", 0), ("abca", 1)]:
            memories = told_along(HOUSE, BOTH_ODD, row)[0][-1]
            self.assertEqual(room_of(HOUSE, BOTH_ODD, memories), room, row)

    def test_hands_that_know_nothing_of_one_another(self):
        machine = hands_turning(random.Random(15), ALL_FREE, [2, 3, 2, 2])
        self.check(ALL_FREE, machine, "abcdabcddcba")

    def test_is_a_room_of_the_least_machine_and_good_where_the_row_is_let_by(self):
        for house in NEWS_HOUSES:
            for machine in untorn_machines(house, 16):
                for row in random_rows(house, 2, 20):
                    room = room_of(house, machine, told_along(house, machine, row)[0][-1])
                    self.assertIs(type(room), int)
                    self.assertEqual(room in least(house, machine)[1], walk(house, machine, 0, row) in machine[1])


class TestTorn(unittest.TestCase):
    def asked(self, house, machine, letter, memories):
        return [
            lambda: no_deeds(house, machine), lambda: deed_done(house, machine, letter, memories),
            lambda: room_of(house, machine, memories * house[0]),
        ]

    def check(self, house, machine, letter, due):
        memory = no_deeds(house, ([[0] * len(house[1])], [0]))
        for ask in self.asked(house, machine, letter, [memory]):
            with self.assertRaises(Torn) as caught:
                ask()
            self.assertEqual((caught.exception.row, caught.exception.place), due)

    def test_row_and_place(self):
        self.check(HOUSE, TORN[0][1], "a", ("ab", 0))
        self.check(HOUSE, TORN[1][1], "a", ("cab", 1))

    def test_ahead_of_no_letter(self):
        for letter in NO_LETTERS + ODD_THINGS:
            self.check(HOUSE, A_AHEAD, letter, ("ab", 0))

    def test_drawn_machines(self):
        torn = 0
        for house in [HOUSE, RING, THREE]:
            for machine in random_machines(house, 30, 8):
                due = judged(house, machine)
                if due is None:
                    memory = no_deeds(house, machine)
                    self.assertEqual(room_of(house, machine, [memory] * house[0]), 0)
                else:
                    torn += 1
                    self.check(house, machine, "a", due)
        self.assertGreater(torn, 30)


class TestRefusals(unittest.TestCase):
    def asked(self, house, machine, letter, memories):
        return [
            lambda: no_deeds(house, machine), lambda: deed_done(house, machine, letter, memories),
            lambda: room_of(house, machine, memories),
        ]

    def test_no_house_is_ahead_of_all_else(self):
        memory = no_deeds(HOUSE, BOTH_ODD)
        for house in NO_HOUSES + ODD_THINGS:
            for machine, letter in [(BOTH_ODD, "a"), (A_AHEAD, "a"), (None, None)]:
                for ask in self.asked(house, machine, letter, [memory, memory]):
                    with self.assertRaises(NoHouse, msg=repr(house)):
                        ask()

    def test_no_machine_is_right_behind(self):
        memory = no_deeds(HOUSE, BOTH_ODD)
        for machine in NO_MACHINES + ODD_THINGS:
            for letter in ["a", "d", None]:
                for ask in self.asked(HOUSE, machine, letter, [memory, memory]):
                    with self.assertRaises(NoMachine, msg=repr(machine)):
                        ask()
        for ask in self.asked(WIDE, BOTH_ODD, "a", [memory]):
            with self.assertRaises(NoMachine):
                ask()

    def test_no_letter(self):
        memory = no_deeds(HOUSE, BOTH_ODD)
        for letter in NO_LETTERS + ODD_THINGS:
            with self.assertRaises(NoRow, msg=repr(letter)):
                deed_done(HOUSE, BOTH_ODD, letter, [memory])

    def test_what_is_handed_in_stays(self):
        for house in [HOUSE, GOSSIP]:
            given, machine = copy.deepcopy((house, untorn_machines(house, 17)[0]))
            kept = copy.deepcopy(machine)
            no_deeds(given, machine)
            for row in random_rows(house, 2, 15):
                all_memories = told_along(house, kept, row)[0][-1]
                for letter in letters(house):
                    memories = [all_memories[hand] for hand in dict(house[1])[letter]]
                    before = copy.deepcopy(memories)
                    told = deed_done(given, machine, letter, memories)
                    self.assertEqual(memories, before)
                    memories.clear()
                    self.assertEqual(told, deed_done(given, machine, letter, before))
                before = copy.deepcopy(all_memories)
                room_of(given, machine, all_memories)
                self.assertEqual(all_memories, before)
            with self.assertRaises(NoRow):
                deed_done(given, machine, ["a"], memories)
            self.assertEqual((given, machine), (house, kept))

    def test_a_changed_machine_answers_anew(self):
        machine = copy.deepcopy(BOTH_ODD)
        memory = no_deeds(HOUSE, machine)
        self.assertEqual(len(memory[1][0]), 4)
        machine[1].clear()
        self.assertEqual(no_deeds(HOUSE, machine)[1], ((0,),) * 4)
        house = copy.deepcopy(HOUSE)
        with self.assertRaises(Torn):
            no_deeds(house, A_AHEAD)
        house[1][0][1].append(1)
        self.assertEqual(len(no_deeds(house, A_AHEAD)[1][0]), 4)
