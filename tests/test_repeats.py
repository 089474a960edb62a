import copy
import random
import unittest

from handsapart.errors import NoHouse, NoRow, Whole
from handsapart.machines import lets
from handsapart.repeats import parts, unparted
from handsapart.sets import machine_of
from tests.samples import (
    ALL_FREE, HEAP_HOUSES, HOUSE, IDLE_HAND, MANY_FREE, NEWS_HOUSES, NO_HOUSES, NO_ROWS, NONE_FREE, ODD_THINGS, RING,
    TWO_LETTERS, WIDE, free, heap_with_distances, letters, looks_alike, random_rows, rows_up_to, shuffled,
)


def parts_reckoned(house, row):
    """By joining letters that are not free until none is left to be joined; first rows by going through the heap."""
    groups = []
    for letter in sorted(set(row)):
        near = [group for group in groups if any(not free(house, letter, other) for other in group)]
        groups = [group for group in groups if group not in near] + [sum(near, []) + [letter]]
    rows = ["".join(letter for letter in row if letter in group) for group in groups]
    return sorted(min(heap_with_distances(house, one)) for one in rows)


class TestParts(unittest.TestCase):
    def test_some_rows(self):
        self.assertEqual(parts(HOUSE, "ba"), ["a", "b"])
        self.assertEqual(parts(HOUSE, "babab"), ["aa", "bbb"])
        self.assertEqual(parts(HOUSE, "bacba"), ["abcab"])
        self.assertEqual(parts(ALL_FREE, "dcbad"), ["a", "b", "c", "dd"])
        self.assertEqual(parts(RING, "ba"), ["a", "b"])

    def test_told_by_their_least_rows_sorted(self):
        # f joins b and c; a and e share hand 0.
        self.assertEqual(parts(MANY_FREE, "fecbadb"), ["d", "ea", "fbbc"])
        self.assertEqual(parts(MANY_FREE, "ecba"), ["b", "c", "ea"])
        self.assertEqual(parts(WIDE, "ydczy"), ["dz", "ycy"])

    def test_no_letters_and_one_letter(self):
        for house in HEAP_HOUSES:
            self.assertEqual(parts(house, ""), [])
            for letter in letters(house):
                self.assertEqual(parts(house, letter), [letter])
                self.assertEqual(parts(house, letter * 7), [letter * 7])

    def test_a_house_without_free_letters(self):
        for row in random_rows(NONE_FREE, 20, 12):
            self.assertEqual(parts(NONE_FREE, row), [row])

    def test_letters_joined_only_through_others(self):
        house = (4, [("a", [0]), ("b", [0, 1]), ("c", [1, 2]), ("d", [2, 3]), ("e", [3])])
        for row in ["abcde", "edcba", "acebd"]:
            self.assertEqual(len(parts(house, row)), 1)
        self.assertEqual(parts(house, "abde"), ["ab", "de"])
        self.assertEqual(parts(house, "edba"), ["ba", "ed"])
        self.assertEqual(parts(house, "ace"), ["a", "c", "e"])

    def test_all_short_rows(self):
        for house, length in [(HOUSE, 6), (RING, 5), (ALL_FREE, 5), (MANY_FREE, 4), (WIDE, 4), (IDLE_HAND, 6)]:
            for row in rows_up_to(house, length):
                self.assertEqual(parts(house, row), parts_reckoned(house, row), (house, row))

    def test_together_they_are_the_row(self):
        for house in NEWS_HOUSES:
            for row in random_rows(house, 6, 40):
                told = parts(house, row)
                self.assertEqual(told, sorted(told))
                self.assertTrue(looks_alike(house, "".join(told), row))
                for one in told:
                    self.assertEqual(parts(house, one), [one])
                    for other in told:
                        self.assertTrue(one == other or all(free(house, x, y) for x in set(one) for y in set(other)))

    def test_all_rows_of_a_heap_have_the_same_parts(self):
        chance = random.Random(50)
        for house in HEAP_HOUSES:
            for row in random_rows(house, 3, 40):
                self.assertEqual(parts(house, row), parts(house, shuffled(chance, house, row, 300)))

    def test_the_told_list_is_the_askers_own(self):
        told = parts(HOUSE, "ab")
        told.append("c")
        self.assertEqual(parts(HOUSE, "ab"), ["a", "b"])


class TestUnparted(unittest.TestCase):
    def check(self, house, row, many):
        told = unparted(house, row, many)
        self.assertIs(type(told), list)
        self.assertEqual(len(told), many)
        for i, (begin, end) in enumerate(told):
            self.assertIs(type(told[i]), tuple)
            for j, (other, other_end) in enumerate(told):
                whole = begin + other_end
                times = len(whole) // len(row)
                repeats = looks_alike(house, whole, row * times)
                self.assertIs(repeats, i == j, (house, row, many, i, j))

    def test_rows_of_two_letters(self):
        for many in range(1, 13):
            self.check(HOUSE, "ab", many)
            self.check(HOUSE, "ba", many)

    def test_rows_of_several_parts(self):
        for house, rows in [
            (HOUSE, ["aab", "babab", "bbaaab"]), (ALL_FREE, ["abcd", "dcba", "abcdab", "ccd", "ddcbaa"]),
            (RING, ["ab", "cd", "cdcdc"]), (MANY_FREE, ["ad", "fecbad", "ecba", "dfdf"]), (TWO_LETTERS, ["by", "yyyyyb"]),
            (WIDE, ["ay", "zczc", "dyd"]),
        ]:
            for row in rows:
                for many in [1, 2, 5, 12]:
                    self.check(house, row, many)

    def test_all_short_rows(self):
        for house, length in [(HOUSE, 5), (RING, 4), (ALL_FREE, 4)]:
            for row in rows_up_to(house, length):
                if len(parts_reckoned(house, row)) > 1:
                    self.check(house, row, 4)
                else:
                    with self.assertRaises(Whole):
                        unparted(house, row, 4)

    def test_whole(self):
        for house in HEAP_HOUSES:
            for row in ["", letters(house)[0], letters(house)[-1] * 6]:
                for many in [1, 12]:
                    with self.assertRaises(Whole):
                        unparted(house, row, many)
        for row in ["abc", "c", "cab", "bacba"]:
            with self.assertRaises(Whole):
                unparted(HOUSE, row, 3)

    def test_a_row_is_repeated_by_a_machine_or_falls(self):
        for row in rows_up_to(HOUSE, 4):
            if len(parts(HOUSE, row)) > 1:
                self.check(HOUSE, row, 3)
            else:
                machine = machine_of(HOUSE, ("again", row))
                for times in range(6):
                    self.assertIs(lets(HOUSE, machine, row * times), True)

    def test_the_told_list_is_the_askers_own(self):
        told = unparted(HOUSE, "ab", 3)
        kept = copy.deepcopy(told)
        told.clear()
        self.assertEqual(unparted(HOUSE, "ab", 3), kept)


class TestRefusals(unittest.TestCase):
    def test_no_house_is_ahead_of_all_else(self):
        for house in NO_HOUSES + ODD_THINGS:
            for row in ["ab", "a", None]:
                for ask in [lambda: parts(house, row), lambda: unparted(house, row, 2)]:
                    with self.assertRaises(NoHouse, msg=repr(house)):
                        ask()

    def test_no_row(self):
        for row in NO_ROWS + ODD_THINGS:
            for ask in [lambda: parts(HOUSE, row), lambda: unparted(HOUSE, row, 2)]:
                with self.assertRaises(NoRow, msg=repr(row)):
                    ask()

    def test_what_is_handed_in_stays(self):
        house = copy.deepcopy(HOUSE)
        parts(house, "ab")
        unparted(house, "ab", 4)
        row = ["a", "b"]
        with self.assertRaises(NoRow):
            parts(house, row)
        with self.assertRaises(Whole):
            unparted(house, "c", 4)
        self.assertEqual((house, row), (HOUSE, ["a", "b"]))

    def test_a_changed_house_answers_anew(self):
        house = copy.deepcopy(HOUSE)
        self.assertEqual(parts(house, "ba"), ["a", "b"])
        house[1][0][1].append(1)
        self.assertEqual(parts(house, "ba"), ["ba"])
        with self.assertRaises(Whole):
            unparted(house, "ba", 2)
