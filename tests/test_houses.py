import copy
import unittest

from handsapart.errors import NoHouse, NoRow
from handsapart.houses import are_free, is_house, is_row, own
from tests.samples import (
    HOUSE, HOUSES, NO_HOUSES, NO_LETTERS, NO_ROWS, ODD_THINGS, ONE_LETTER, SIX, TWO_LETTERS, WIDE, letters, nest,
    rows_up_to,
)


class TestIsHouse(unittest.TestCase):
    def test_ordinary_houses(self):
        for house in HOUSES:
            self.assertIs(is_house(house), True, house)

    def test_two_to_four_hands(self):
        for hands in [2, 3, 4]:
            self.assertIs(is_house((hands, [("a", [0])])), True)
            self.assertIs(is_house((hands, [("a", [hands - 1])])), True)

    def test_one_to_six_letters(self):
        for count in range(1, 7):
            self.assertIs(is_house((2, SIX[:count])), True)

    def test_first_and_last_small_letter(self):
        self.assertIs(is_house((2, [("a", [0]), ("z", [1])])), True)
        self.assertIs(is_house((2, [("z", [1])])), True)

    def test_one_hand_and_all_hands(self):
        for hands in [2, 3, 4]:
            self.assertIs(is_house((hands, [("k", list(range(hands)))])), True)
        self.assertIs(is_house((4, [("k", [1, 3])])), True)

    def test_no_houses(self):
        for thing in NO_HOUSES + ODD_THINGS + [nest(8), nest(9), HOUSES, (HOUSE,), (HOUSE, HOUSE)]:
            self.assertIs(is_house(thing), False, thing)

    def test_what_is_handed_in_stays(self):
        for thing in NO_HOUSES + HOUSES:
            kept = copy.deepcopy(thing)
            is_house(thing)
            self.assertEqual(repr(thing), repr(kept))

    def test_a_changed_list_is_looked_at_anew(self):
        house = copy.deepcopy(HOUSE)
        self.assertIs(is_house(house), True)
        house[1][2][1].append(2)
        self.assertIs(is_house(house), False)


class TestOwn(unittest.TestCase):
    def test_hands_of_ordinary_letters(self):
        self.assertEqual([own(HOUSE, letter) for letter in "abc"], [[0], [1], [0, 1]])
        self.assertEqual(own(ONE_LETTER, "q"), [1])
        told = [own(WIDE, letter) for letter in "acdmyz"]
        self.assertEqual(told, [[0], [1, 2], [3], [0, 1, 2, 3], [2], [0, 3]])

    def test_no_letters(self):
        for thing in NO_LETTERS:
            with self.assertRaises(NoRow, msg=repr(thing)):
                own(HOUSE, thing)
        for thing in ["", "a", "qq"]:
            with self.assertRaises(NoRow):
                own(ONE_LETTER, thing)

    def test_no_house_comes_first(self):
        for thing in NO_HOUSES + ODD_THINGS:
            for letter in ["a", "d", None]:
                with self.assertRaises(NoHouse, msg=repr(thing)):
                    own(thing, letter)

    def test_the_told_list_is_the_askers_own(self):
        house = copy.deepcopy(HOUSE)
        told = own(house, "c")
        again = own(house, "c")
        told.append(7)
        self.assertEqual(house, HOUSE)
        self.assertEqual(again, [0, 1])
        self.assertEqual(own(house, "c"), [0, 1])

    def test_later_changes_of_the_house_leave_the_told_list(self):
        house = copy.deepcopy(HOUSE)
        told = own(house, "c")
        house[1][2][1].pop()
        self.assertEqual(told, [0, 1])
        self.assertEqual(own(house, "c"), [0])


class TestAreFree(unittest.TestCase):
    def test_letters_without_a_common_hand(self):
        self.assertIs(are_free(HOUSE, "a", "b"), True)
        self.assertIs(are_free(HOUSE, "b", "a"), True)

    def test_letters_with_a_common_hand(self):
        for one, other in ["ac", "ca", "bc", "cb"]:
            self.assertIs(are_free(HOUSE, one, other), False)
        self.assertIs(are_free((2, [("a", [0]), ("b", [0])]), "a", "b"), False)

    def test_a_letter_is_not_free_of_itself(self):
        for house in HOUSES:
            for letter in letters(house):
                self.assertIs(are_free(house, letter, letter), False)

    def test_all_pairs_of_a_wide_house(self):
        free = ["ac", "ad", "ay", "cd", "cz", "dy", "yz"]
        for one in letters(WIDE):
            for other in letters(WIDE):
                due = "".join(sorted(one + other)) in free
                self.assertIs(are_free(WIDE, one, other), due, one + other)

    def test_no_letters_in_either_place(self):
        for thing in NO_LETTERS:
            for one, other in [(thing, "a"), ("a", thing), (thing, thing)]:
                with self.assertRaises(NoRow, msg=repr(thing)):
                    are_free(HOUSE, one, other)

    def test_no_house_comes_first(self):
        for thing in NO_HOUSES + ODD_THINGS:
            for one, other in ["ab", "ad", (None, 0)]:
                with self.assertRaises(NoHouse, msg=repr(thing)):
                    are_free(thing, one, other)

    def test_what_is_handed_in_stays(self):
        house = copy.deepcopy(WIDE)
        are_free(house, "a", "m")
        self.assertEqual(house, WIDE)


class TestIsRow(unittest.TestCase):
    def test_rows(self):
        for house in HOUSES:
            for row in rows_up_to(house, 3):
                self.assertIs(is_row(house, row), True)
        self.assertIs(is_row(HOUSE, ""), True)
        self.assertIs(is_row(HOUSE, "cab" * 13 + "c"), True)

    def test_no_rows(self):
        for thing in NO_ROWS:
            self.assertIs(is_row(HOUSE, thing), False, thing)
        self.assertIs(is_row(TWO_LETTERS, "bcy"), False)
        for thing in ODD_THINGS:
            self.assertIs(is_row(WIDE, thing), False, thing)

    def test_no_house_comes_first(self):
        for thing in NO_HOUSES + ODD_THINGS:
            for row in ["", "a", "?", None]:
                with self.assertRaises(NoHouse, msg=repr(thing)):
                    is_row(thing, row)

    def test_what_is_handed_in_stays(self):
        house = copy.deepcopy(HOUSE)
        for thing in NO_ROWS + ["", "abc"]:
            kept = copy.deepcopy(thing)
            is_row(house, thing)
            self.assertEqual(repr(thing), repr(kept))
        self.assertEqual(house, HOUSE)
