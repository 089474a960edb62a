import copy
import random
import unittest

from handsapart.errors import NoHand, NoHouse, NoMachine, NoRow, Torn
from handsapart.hands import Hands
from handsapart.judging import judged
from handsapart.machines import least
from handsapart.memory import no_deeds
from tests.reckoned import Reckoned
from tests.samples import (
    BIG, GOSSIP, HOUSE, LINE, NEWS_HOUSES, NO_HANDS, NO_HOUSES, NO_LETTERS, NO_MACHINES, ODD_THINGS, RING, THREE,
    random_machines, random_rows, rows_up_to, shuffled, walk,
)
from tests.untorn import A_AHEAD, BOTH_ODD, TORN, hands_turning, states_for, untorn_machines


def state(hands, house):
    """All that can be asked without doing anything."""
    return [hands.memory(hand) for hand in range(house[0])] + [hands.room(), hands.is_good()]


def behind(house, machine, row):
    hands = Hands(house, machine)
    for letter in row:
        hands.do(letter)
    return hands


class TestHands(unittest.TestCase):
    def check(self, house, machine, row):
        reckoned = Reckoned(house, row)
        smallest = least(house, machine)
        hands = Hands(house, machine)
        for size in range(len(row) + 1):
            for hand in range(house[0]):
                self.assertEqual(hands.memory(hand), reckoned.memory(house, smallest, hand, size), (house, row, size))
            room = walk(house, smallest, 0, row[:size])
            self.assertEqual(hands.room(), room)
            self.assertIs(hands.is_good(), room in smallest[1])
            self.assertIs(hands.is_good(), walk(house, machine, 0, row[:size]) in machine[1])
            if size < len(row):
                self.assertEqual(hands.do(row[size]), reckoned.names[size])

    def test_at_first(self):
        for house in NEWS_HOUSES:
            for machine in untorn_machines(house, 20):
                hands = Hands(house, machine)
                none = no_deeds(house, machine)
                self.assertEqual(state(hands, house)[:-1], [none] * house[0] + [0])
                self.assertIs(hands.is_good(), 0 in machine[1])

    def test_some_deeds(self):
        hands = Hands(HOUSE, BOTH_ODD)
        told = [(hands.do(letter), hands.room(), hands.is_good()) for letter in "abacab"]
        self.assertEqual(told, [
            (("a", 0), 1, False), (("b", 0), 3, True), (("a", 1), 2, False), (("c", 0), 0, False), (("a", 0), 1, False),
            (("b", 0), 3, True),
        ])

    def test_others_keep_their_memories(self):
        machine = hands_turning(random.Random(21), GOSSIP, states_for(GOSSIP))
        hands = Hands(GOSSIP, machine)
        for letter in random_rows(GOSSIP, 1, 40)[0]:
            before = state(hands, GOSSIP)
            hands.do(letter)
            own = dict(GOSSIP[1])[letter]
            for hand in range(4):
                if hand not in own:
                    self.assertEqual(hands.memory(hand), before[hand])
            self.assertEqual(len({hands.memory(hand) for hand in own}), 1)

    def test_all_short_rows(self):
        for house, length in [(HOUSE, 4), (THREE, 3), (RING, 3)]:
            for machine in untorn_machines(house, 22)[:1]:
                for row in rows_up_to(house, length):
                    self.check(house, machine, row)

    def test_machines_of_each_kind(self):
        for house in NEWS_HOUSES:
            for machine in untorn_machines(house, 23):
                self.check(house, machine, random_rows(house, 1, 15)[0])

    def test_drawn_rows(self):
        for house in NEWS_HOUSES:
            machine = hands_turning(random.Random(24), house, states_for(house))
            self.check(house, machine, random_rows(house, 1, 40)[0])

    def test_rows_of_several_hundred_letters(self):
        for house in NEWS_HOUSES:
            machine = hands_turning(random.Random(25), house, states_for(house))
            smallest = least(house, machine)
            for row in random_rows(house, 2, 500):
                hands = Hands(house, machine)
                for size, letter in enumerate(row, start=1):
                    hands.do(letter)
                    if size % 20 == 0:
                        room = walk(house, smallest, 0, row[:size])
                        self.assertEqual((hands.room(), hands.is_good()), (room, room in smallest[1]))

    def test_a_long_row_against_the_deeds_and_their_pasts(self):
        for house in [HOUSE, LINE]:
            self.check(house, hands_turning(random.Random(26), house, states_for(house)), random_rows(house, 1, 220)[0])

    def test_two_rows_of_one_heap_leave_each_hand_the_same_memory(self):
        chance = random.Random(27)
        for house in NEWS_HOUSES:
            for machine in untorn_machines(house, 28)[:4]:
                row = random_rows(house, 1, 40)[0]
                other = shuffled(chance, house, row, 300)
                self.assertEqual(state(behind(house, machine, row), house), state(behind(house, machine, other), house))

    def test_two_hands_at_once_dont_touch_one_another(self):
        machine = hands_turning(random.Random(29), THREE, states_for(THREE))
        row, other = random_rows(THREE, 2, 40)
        one, two = Hands(THREE, machine), Hands(THREE, machine)
        for first, second in zip(row, other):
            one.do(first)
            two.do(second)
        self.assertEqual(state(one, THREE), state(behind(THREE, machine, row), THREE))
        self.assertEqual(state(two, THREE), state(behind(THREE, machine, other), THREE))

    def test_a_memory_told_on_the_way_stays(self):
        machine = hands_turning(random.Random(30), THREE, states_for(THREE))
        hands = Hands(THREE, machine)
        told, kept = [], []
        for letter in random_rows(THREE, 1, 40)[0]:
            hands.do(letter)
            told.append(state(hands, THREE))
            kept.append(copy.deepcopy(told[-1]))
        self.assertEqual(told, kept)

    def test_house_and_machine_changed_behind_the_call(self):
        due = state(behind(HOUSE, BOTH_ODD, "abacabb"), HOUSE)
        house, machine = copy.deepcopy((HOUSE, BOTH_ODD))
        hands = Hands(house, machine)
        self.assertEqual((house, machine), (HOUSE, BOTH_ODD))
        house[1][0][1].append(1)
        house[1].pop()
        machine[0][0][0] = 0
        machine[0].append([0])
        machine[1].clear()
        for letter in "abacabb":
            hands.do(letter)
        self.assertEqual(state(hands, HOUSE), due)
        house[1].clear()
        machine[0].clear()
        self.assertEqual(state(hands, HOUSE), due)
        with self.assertRaises(NoHand):
            hands.memory(2)

    def test_a_least_machine_changed_behind_the_call(self):
        machine = least(HOUSE, BOTH_ODD)
        hands = Hands(HOUSE, machine)
        machine[1].append(9)
        machine[0][0][0] = 0
        hands.do("a")
        hands.do("b")
        self.assertEqual((hands.room(), hands.is_good()), (3, True))


class TestRefusals(unittest.TestCase):
    def test_no_house_is_ahead_of_all_else(self):
        for house in NO_HOUSES + ODD_THINGS:
            for machine in [BOTH_ODD, A_AHEAD, None]:
                with self.assertRaises(NoHouse, msg=repr(house)):
                    Hands(house, machine)

    def test_no_machine_is_right_behind(self):
        for machine in NO_MACHINES + ODD_THINGS:
            with self.assertRaises(NoMachine, msg=repr(machine)):
                Hands(HOUSE, machine)
        with self.assertRaises(NoMachine):
            Hands(GOSSIP, A_AHEAD)

    def test_torn(self):
        for house, machine in TORN + [(RING, one) for one in random_machines(RING, 20, 8)]:
            due = judged(house, machine)
            if due is not None:
                with self.assertRaises(Torn) as caught:
                    Hands(house, machine)
                self.assertEqual((caught.exception.row, caught.exception.place), due)

    def test_no_letter_changes_nothing(self):
        hands = behind(HOUSE, BOTH_ODD, "abca")
        before = state(hands, HOUSE)
        for letter in NO_LETTERS + ODD_THINGS:
            with self.assertRaises(NoRow, msg=repr(letter)):
                hands.do(letter)
            self.assertEqual(state(hands, HOUSE), before)
        self.assertEqual(hands.do("b"), behind(HOUSE, BOTH_ODD, "abca").do("b"))

    def test_no_hand_changes_nothing(self):
        hands = behind(HOUSE, BOTH_ODD, "abca")
        before = state(hands, HOUSE)
        for hand in NO_HANDS:
            with self.assertRaises(NoHand, msg=repr(hand)):
                hands.memory(hand)
            self.assertEqual(state(hands, HOUSE), before)

    def test_numbers_just_beyond(self):
        for house in NEWS_HOUSES:
            hands = Hands(house, ([[0] * len(house[1])], []))
            hands.memory(house[0] - 1)
            for hand in [-1, house[0], -house[0], BIG, True, False]:
                with self.assertRaises(NoHand):
                    hands.memory(hand)
