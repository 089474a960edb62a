import copy
import random
import unittest

from handsapart.errors import NoHand, NoHouse, NoRow
from handsapart.rows import alike
from handsapart.seen import seen, seen_apart
from tests.samples import (
    ALL_FREE, BIG, HEAP_HOUSES, HOUSE, IDLE_HAND, NO_HANDS, NO_HOUSES, NO_ROWS, NONE_FREE, ODD_THINGS, RING, WIDE,
    heap_with_distances, letters, random_rows, rows_up_to, shuffled,
)


def own_letters(house, row, hand):
    """Letter by letter."""
    kept = ""
    for letter in row:
        if hand in dict(house[1])[letter]:
            kept += letter
    return kept


def first_apart(house, one, other):
    for hand in range(house[0]):
        first, second = own_letters(house, one, hand), own_letters(house, other, hand)
        for place in range(max(len(first), len(second))):
            if place >= len(first) or place >= len(second) or first[place] != second[place]:
                return (hand, place)
    return None


class TestSeen(unittest.TestCase):
    def test_each_hand_of_ordinary_rows(self):
        self.assertEqual(seen(HOUSE, "abcba", 0), "aca")
        self.assertEqual(seen(HOUSE, "abcba", 1), "bcb")
        self.assertEqual([seen(WIDE, "zamcydz", hand) for hand in range(4)], ["zamz", "mc", "mcy", "zmdz"])
        self.assertEqual([seen(RING, "abcd", hand) for hand in range(4)], ["ad", "ac", "bc", "bd"])

    def test_the_row_without_letters(self):
        for house in HEAP_HOUSES:
            for hand in range(house[0]):
                self.assertEqual(seen(house, "", hand), "")

    def test_a_hand_without_letters(self):
        for row in ["", "f", "fghgf" * 8]:
            self.assertEqual(seen(IDLE_HAND, row, 0), "")
            self.assertEqual(seen(IDLE_HAND, row, 2), "")
        self.assertEqual(seen(IDLE_HAND, "fghgf", 1), "fhf")

    def test_a_hand_that_sees_all(self):
        for row in random_rows(NONE_FREE, 5, 40):
            self.assertEqual(seen(NONE_FREE, row, 1), row)

    def test_all_short_rows_and_long_ones(self):
        for house in HEAP_HOUSES:
            for row in list(rows_up_to(house, 3)) + random_rows(house, 10, 40):
                for hand in range(house[0]):
                    self.assertEqual(seen(house, row, hand), own_letters(house, row, hand))


class TestSeenApart(unittest.TestCase):
    def test_none_where_all_see_the_same(self):
        self.assertIsNone(seen_apart(HOUSE, "", ""))
        self.assertIsNone(seen_apart(HOUSE, "abcba", "bacab"))
        self.assertIsNone(seen_apart(ALL_FREE, "abcd", "dcba"))

    def test_the_first_place(self):
        self.assertEqual(seen_apart(HOUSE, "abcb", "abbc"), (1, 1))
        self.assertEqual(seen_apart(HOUSE, "aac", "aca"), (0, 1))
        self.assertEqual(seen_apart(NONE_FREE, "abca", "acba"), (1, 1))

    def test_the_first_hand_even_where_a_later_one_has_a_lesser_place(self):
        self.assertEqual(seen_apart(HOUSE, "aaab", "aac"), (0, 2))
        self.assertEqual(seen_apart(HOUSE, "aaab", "aaa"), (1, 0))

    def test_one_has_ended(self):
        self.assertEqual(seen_apart(HOUSE, "", "a"), (0, 0))
        self.assertEqual(seen_apart(HOUSE, "b", ""), (1, 0))
        self.assertEqual(seen_apart(HOUSE, "abab", "aba"), (1, 1))
        self.assertEqual(seen_apart(HOUSE, "abb", "babb"), (1, 2))
        self.assertEqual(seen_apart(HOUSE, "a" * 39, "a" * 40), (0, 39))

    def test_a_hand_without_letters_is_passed_by(self):
        self.assertEqual(seen_apart(IDLE_HAND, "fg", "gg"), (1, 0))
        self.assertEqual(seen_apart(IDLE_HAND, "fg", "f"), (3, 0))

    def test_against_the_letters_themselves(self):
        for house in HEAP_HOUSES:
            rows = list(rows_up_to(house, 2)) + random_rows(house, 12, 3) + random_rows(house, 12, 6)
            for one in rows:
                for other in rows:
                    self.assertEqual(seen_apart(house, one, other), first_apart(house, one, other), (one, other))

    def test_two_rows_are_one_heap_just_where_each_hand_sees_the_same(self):
        for house, length in [(HOUSE, 4), (ALL_FREE, 3), (NONE_FREE, 3), (RING, 3), (IDLE_HAND, 4)]:
            rows = list(rows_up_to(house, length))
            for one in rows:
                heap = heap_with_distances(house, one)
                for other in rows:
                    told = seen_apart(house, one, other)
                    self.assertEqual(told is None, other in heap, (one, other))
                    self.assertEqual(told is None, alike(house, one, other), (one, other))

    def test_rows_of_forty_letters(self):
        chance = random.Random(12)
        for house in HEAP_HOUSES:
            for row in random_rows(house, 6, 40):
                other = shuffled(chance, house, row, 200)
                self.assertIsNone(seen_apart(house, row, other))
                longer = other[:-1] + chance.choice(letters(house)) + other[-1]
                self.assertEqual(seen_apart(house, row, longer), first_apart(house, row, longer))
                self.assertEqual(seen_apart(house, other[1:], row), first_apart(house, other[1:], row))


class TestRefusals(unittest.TestCase):
    def test_no_house_is_first(self):
        for house in NO_HOUSES + ODD_THINGS:
            for row, hand in [("a", 0), ("?", 9), (None, None)]:
                with self.assertRaises(NoHouse, msg=repr(house)):
                    seen(house, row, hand)
                with self.assertRaises(NoHouse, msg=repr(house)):
                    seen_apart(house, row, row)

    def test_no_row_is_ahead_of_no_hand(self):
        for row in NO_ROWS + ODD_THINGS:
            for hand in [0, 2, True, None]:
                with self.assertRaises(NoRow, msg=repr(row)):
                    seen(HOUSE, row, hand)

    def test_no_row_in_either_place(self):
        for row in NO_ROWS + ODD_THINGS:
            for one, other in [(row, "a"), ("a", row), ("", row), (row, row)]:
                with self.assertRaises(NoRow, msg=repr(row)):
                    seen_apart(HOUSE, one, other)

    def test_no_hand(self):
        for hand in NO_HANDS:
            for row in ["", "abc"]:
                with self.assertRaises(NoHand, msg=repr(hand)):
                    seen(HOUSE, row, hand)

    def test_numbers_just_beyond(self):
        for house in HEAP_HOUSES:
            self.assertEqual(seen(house, "", house[0] - 1), "")
            for hand in [-1, house[0], -house[0], BIG, True, False]:
                with self.assertRaises(NoHand):
                    seen(house, "", hand)

    def test_what_is_handed_in_stays(self):
        house, hand, row = copy.deepcopy(WIDE), [0], ["a"]
        seen(house, "zamcyd", 2)
        seen_apart(house, "zamcyd", "zamcdy")
        with self.assertRaises(NoHand):
            seen(house, "a", hand)
        with self.assertRaises(NoRow):
            seen_apart(house, "a", row)
        self.assertEqual((house, hand, row), (WIDE, [0], ["a"]))

    def test_a_changed_house_answers_anew(self):
        house = copy.deepcopy(HOUSE)
        self.assertEqual(seen(house, "ab", 1), "b")
        self.assertIsNone(seen_apart(house, "ab", "ba"))
        house[1][0][1].append(1)
        self.assertEqual(seen(house, "ab", 1), "ab")
        self.assertEqual(seen_apart(house, "ab", "ba"), (1, 0))
