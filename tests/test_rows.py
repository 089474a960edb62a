import copy
import random
import time
import unittest

from handsapart.errors import NoHouse, NoRow
from handsapart.houses import is_row
from handsapart.rows import alike, exchanges, least_row, steps
from tests.samples import (
    ALL_FREE, HEAP_HOUSES, HOUSE, MANY_FREE, NO_HOUSES, NO_ROWS, NONE_FREE, ODD_THINGS, RING, WIDE, exchanged, free,
    free_places, heap_with_distances, is_first_of_its_heap, random_rows, rows_up_to, shuffled,
)

# Houses, each with a length up to which all rows are gone through.
SHORT = [(HOUSE, 6), (ALL_FREE, 4), (NONE_FREE, 4), (RING, 5), (MANY_FREE, 4), (WIDE, 3)]


def inversions(row, other):
    """How many pairs of deeds stand in the other order, each letter's deeds counted one by one."""
    places = {}
    for place, letter in enumerate(other):
        places[(letter, other[:place].count(letter))] = place
    moved = [places[(letter, row[:place].count(letter))] for place, letter in enumerate(row)]
    return sum(moved[i] > moved[j] for j in range(len(moved)) for i in range(j))


class HeapCase(unittest.TestCase):
    def check_steps(self, house, row):
        told = steps(house, row)
        self.assertIsInstance(told, list)
        for step in told:
            self.assertIsInstance(step, str)
            self.assertNotEqual(step, "")
            self.assertEqual(list(step), sorted(set(step)))
            for one in step:
                self.assertTrue(all(one == other or free(house, one, other) for other in step))
        for ahead, step in zip(told, told[1:]):
            for letter in step:
                self.assertFalse(all(free(house, letter, other) for other in ahead))
        self.assertEqual(sorted("".join(told)), sorted(row))
        return "".join(told)

    def check_exchanges(self, house, row):
        """Gone along one by one, down to the last row."""
        told = exchanges(house, row)
        self.assertIsInstance(told, list)
        for place in told:
            self.assertIs(type(place), int)
            self.assertIn(place, free_places(house, row))
            row = exchanged(row, place)
        return row, len(told)


class TestShortRows(HeapCase):
    def test_all_rows_of_each_heap(self):
        for house, length in SHORT:
            for row in rows_up_to(house, length):
                distances = heap_with_distances(house, row)
                due = min(distances)
                self.assertEqual(least_row(house, row), due, row)
                self.assertEqual(self.check_exchanges(house, row), (due, distances[due]), row)
                self.assertIn(self.check_steps(house, row), distances, row)
                self.assertEqual(steps(house, row), steps(house, due), row)

    def test_alike_just_where_one_is_in_the_heap_of_the_other(self):
        for house, length in [(HOUSE, 4), (ALL_FREE, 3), (NONE_FREE, 3), (RING, 3), (MANY_FREE, 2)]:
            rows = list(rows_up_to(house, length))
            for one in rows:
                heap = heap_with_distances(house, one)
                for other in rows:
                    self.assertIs(alike(house, one, other), other in heap, (one, other))

    def test_drawn_rows_of_some_letters(self):
        for house in HEAP_HOUSES:
            for row in random_rows(house, 12, 8):
                distances = heap_with_distances(house, row)
                due = min(distances)
                self.assertEqual(least_row(house, row), due)
                self.assertEqual(self.check_exchanges(house, row), (due, distances[due]))
                self.assertIn(self.check_steps(house, row), distances)
                for other in random_rows(house, 6, 8) + list(distances)[::50]:
                    self.assertIs(alike(house, row, other), other in distances)


class TestOrdinaryRows(HeapCase):
    def test_the_row_without_letters(self):
        for house in HEAP_HOUSES:
            self.assertIs(alike(house, "", ""), True)
            self.assertEqual(least_row(house, ""), "")
            self.assertEqual(steps(house, ""), [])
            self.assertEqual(exchanges(house, ""), [])
        self.assertIs(alike(HOUSE, "", "a"), False)
        self.assertIs(alike(HOUSE, "a", ""), False)

    def test_one_letter_again_and_again(self):
        for house in HEAP_HOUSES:
            for letter, hands in house[1]:
                for count in [1, 2, 40]:
                    row = letter * count
                    self.assertIs(alike(house, row, row), True)
                    self.assertIs(alike(house, row, row + letter), False)
                    self.assertEqual(least_row(house, row), row)
                    self.assertEqual(steps(house, row), [letter] * count)
                    self.assertEqual(exchanges(house, row), [])

    def test_some_rows(self):
        self.assertIs(alike(HOUSE, "ab", "ba"), True)
        self.assertIs(alike(HOUSE, "acb", "bca"), False)
        self.assertIs(alike(HOUSE, "bacab", "abcba"), True)
        self.assertIs(alike(HOUSE, "ab", "abb"), False)
        self.assertEqual(least_row(HOUSE, "bacba"), "abcab")
        self.assertEqual(least_row(HOUSE, "bbbaca"), "abbbca")
        self.assertEqual(steps(HOUSE, "bbbaca"), ["ab", "b", "b", "c", "a"])
        self.assertEqual(steps(HOUSE, "cba"), ["c", "ab"])
        self.assertEqual(exchanges(HOUSE, "bacba"), [0, 3])
        self.assertEqual(exchanges(HOUSE, "abcab"), [])

    def test_a_lesser_letter_may_stay_behind_a_greater_one(self):
        # a stays behind c, which has a hand in common with it; b is free of both and comes first.
        house = (2, [("a", [1]), ("b", [0]), ("c", [1])])
        self.assertEqual(least_row(house, "cab"), "bca")
        self.assertEqual(least_row(house, "cba"), "bca")
        self.assertEqual(least_row(RING, "cba"), "cab")
        self.assertEqual(least_row(RING, "cdba"), "cdab")

    def test_steps_are_as_full_as_can_be(self):
        self.assertEqual(steps(RING, "acbd"), ["a", "c", "b", "d"])
        self.assertEqual(steps(RING, "abcd"), ["ab", "cd"])
        self.assertEqual(steps(RING, "badcab"), ["ab", "cd", "ab"])
        self.assertEqual(steps(ALL_FREE, "aaabbd"), ["abd", "ab", "a"])


class TestFreeAndNotFree(HeapCase):
    def test_all_letters_free(self):
        for row in random_rows(ALL_FREE, 20, 40) + random_rows(ALL_FREE, 20, 9):
            due = "".join(sorted(row))
            self.assertEqual(least_row(ALL_FREE, row), due)
            self.assertIs(alike(ALL_FREE, row, due), True)
            self.assertIs(alike(ALL_FREE, row, row[::-1]), True)
            counts = [row.count(letter) for letter in "abcd"]
            told = ["".join(letter for letter, count in zip("abcd", counts) if count > i) for i in range(max(counts))]
            self.assertEqual(steps(ALL_FREE, row), told)
            self.assertEqual(self.check_exchanges(ALL_FREE, row), (due, inversions(row, due)))

    def test_no_letters_free(self):
        rows = random_rows(NONE_FREE, 10, 40) + random_rows(NONE_FREE, 10, 3)
        for row in rows:
            self.assertEqual(least_row(NONE_FREE, row), row)
            self.assertEqual(steps(NONE_FREE, row), list(row))
            self.assertEqual(exchanges(NONE_FREE, row), [])
            for other in rows:
                self.assertIs(alike(NONE_FREE, row, other), row == other)


class TestLongRows(HeapCase):
    def test_rows_of_forty_letters(self):
        chance = random.Random(40)
        for house in HEAP_HOUSES:
            for row in random_rows(house, 8, 40):
                other = shuffled(chance, house, row, 300)
                due = least_row(house, row)
                self.assertTrue(is_first_of_its_heap(house, due))
                self.assertEqual(self.check_exchanges(house, row), (due, inversions(row, due)))
                self.assertEqual(self.check_exchanges(house, other), (due, inversions(other, due)))
                self.assertEqual(least_row(house, other), due)
                self.assertEqual(least_row(house, due), due)
                self.assertIs(alike(house, row, other), True)
                self.assertIs(alike(house, other, due), True)
                self.assertIs(alike(house, row, self.check_steps(house, row)), True)
                self.assertEqual(steps(house, other), steps(house, row))

    def test_not_alike(self):
        chance = random.Random(41)
        seen_some = 0
        for house in HEAP_HOUSES:
            for row in random_rows(house, 8, 40):
                other = shuffled(chance, house, row, 100)
                self.assertIs(alike(house, row, other[1:]), False)
                self.assertIs(alike(house, other[:-1], row), False)
                for place in range(39):
                    pair = other[place:place + 2]
                    if pair[0] != pair[1] and not free(house, pair[0], pair[1]):
                        seen_some += 1
                        self.assertIs(alike(house, row, exchanged(other, place)), False)
        self.assertGreater(seen_some, 100)

    def test_the_farthest_exchanges(self):
        row = "d" * 10 + "c" * 10 + "b" * 10 + "a" * 10
        self.assertEqual(len(exchanges(ALL_FREE, row)), 600)
        self.assertEqual(self.check_exchanges(ALL_FREE, row), (row[::-1], 600))

    def test_within_a_short_time(self):
        begun = time.process_time()
        for row in random_rows(ALL_FREE, 20, 40):
            alike(ALL_FREE, row, row[::-1])
            least_row(ALL_FREE, row)
            steps(ALL_FREE, row)
            exchanges(ALL_FREE, row)
        self.assertLess(time.process_time() - begun, 10)


class TestRefusals(unittest.TestCase):
    def asked(self, house, row):
        return [
            lambda: alike(house, row, row), lambda: alike(house, row, "a"), lambda: alike(house, "a", row),
            lambda: least_row(house, row), lambda: steps(house, row), lambda: exchanges(house, row),
        ]

    def test_no_house_is_first(self):
        for house in NO_HOUSES + ODD_THINGS:
            for row in ["a", "?", None]:
                for ask in self.asked(house, row):
                    with self.assertRaises(NoHouse, msg=repr(house)):
                        ask()

    def test_no_row(self):
        for row in NO_ROWS + ODD_THINGS:
            self.assertIs(is_row(HOUSE, row), False)
            for ask in self.asked(HOUSE, row):
                with self.assertRaises(NoRow, msg=repr(row)):
                    ask()

    def test_what_is_handed_in_stays(self):
        house, row = copy.deepcopy(WIDE), ["a"]
        for ask in self.asked(house, "zadcy"):
            ask()
        for ask in self.asked(house, row):
            with self.assertRaises(NoRow):
                ask()
        self.assertEqual((house, row), (WIDE, ["a"]))

    def test_told_lists_are_the_askers_own(self):
        for ask in [steps, exchanges]:
            for row in ["", "bacba"]:
                told, again = ask(HOUSE, row), ask(HOUSE, row)
                due = list(told)
                told.append(7)
                self.assertEqual(again, due)
                self.assertEqual(ask(HOUSE, row), due)

    def test_a_changed_house_answers_anew(self):
        house = copy.deepcopy(HOUSE)
        self.assertIs(alike(house, "ab", "ba"), True)
        told = steps(house, "ba")
        house[1][0][1].append(1)
        self.assertIs(alike(house, "ab", "ba"), False)
        self.assertEqual(steps(house, "ba"), ["b", "a"])
        self.assertEqual(least_row(house, "ba"), "ba")
        self.assertEqual(exchanges(house, "ba"), [])
        self.assertEqual(told, ["ab"])
