import copy
import itertools
import math
import random
import time
import unittest

from handsapart.errors import NoHouse, NoRow, TooMany
from handsapart.orders import orders, orders_counted, pasts_counted
from tests.samples import (
    ALL_FREE, HEAP_HOUSES, HOUSE, MANY_FREE, NO_HOUSES, NO_ROWS, NONE_FREE, ODD_THINGS, RING, TWO_LETTERS, WIDE,
    chained, heap_with_distances, random_rows, rows_up_to, shuffled,
)

# Between two c's the one b can stand at as many places as there are a's, and one more: 5 * 5 * 5 * 4 rows.
JUST_500 = "aaaabcaaaabcaaaabcaaab"
LADDER = (4, [("a", [0]), ("b", [0, 1]), ("c", [1, 2]), ("d", [2, 3]), ("e", [3]), ("f", [1])])
JUST_501 = "ecfcebfeadc"


def count_pasts(house, row):
    """By going through all sets of deeds."""
    below = chained(house, row)
    count = 0
    for marks in itertools.product([False, True], repeat=len(row)):
        places = {place for place in range(len(row)) if marks[place]}
        count += all(below[place] <= places for place in places)
    return count


class TestShortRows(unittest.TestCase):
    def check(self, house, row):
        heap = sorted(heap_with_distances(house, row))
        self.assertEqual(orders_counted(house, row), len(heap), row)
        if len(heap) <= 500:
            self.assertEqual(orders(house, row), heap, row)
        else:
            with self.assertRaises(TooMany, msg=row):
                orders(house, row)
        self.assertEqual(pasts_counted(house, row), count_pasts(house, row), row)

    def test_all_short_rows(self):
        for house, length in [(HOUSE, 5), (ALL_FREE, 4), (NONE_FREE, 3), (RING, 4), (MANY_FREE, 3), (WIDE, 3)]:
            for row in rows_up_to(house, length):
                self.check(house, row)

    def test_drawn_rows(self):
        for house in HEAP_HOUSES:
            for length in [5, 6, 7, 8]:
                for row in random_rows(house, 4, length):
                    self.check(house, row)


class TestOrders(unittest.TestCase):
    def test_some_rows(self):
        self.assertEqual(orders(HOUSE, "bac"), ["abc", "bac"])
        self.assertEqual(orders(HOUSE, "baab"), ["aabb", "abab", "abba", "baab", "baba", "bbaa"])
        self.assertEqual(orders(RING, "dcba"), ["cdab", "cdba", "dcab", "dcba"])
        self.assertEqual(pasts_counted(HOUSE, "bac"), 5)
        self.assertEqual(pasts_counted(HOUSE, "baab"), 9)

    def test_the_row_without_letters(self):
        for house in HEAP_HOUSES:
            self.assertEqual(orders(house, ""), [""])
            self.assertEqual(orders_counted(house, ""), 1)
            self.assertEqual(pasts_counted(house, ""), 1)

    def test_one_letter_again_and_again(self):
        for house in HEAP_HOUSES:
            for letter, hands in house[1]:
                self.assertEqual(orders(house, letter * 40), [letter * 40])
                self.assertEqual(orders_counted(house, letter * 40), 1)
                self.assertEqual(pasts_counted(house, letter * 40), 41)

    def test_no_letters_free(self):
        for row in random_rows(NONE_FREE, 5, 40):
            self.assertEqual(orders(NONE_FREE, row), [row])
            self.assertEqual(orders_counted(NONE_FREE, row), 1)
            self.assertEqual(pasts_counted(NONE_FREE, row), 41)

    def test_all_letters_free(self):
        for row in random_rows(ALL_FREE, 5, 40) + random_rows(ALL_FREE, 5, 11):
            counts = [row.count(letter) for letter in "abcd"]
            due = math.factorial(len(row))
            for count in counts:
                due //= math.factorial(count)
            self.assertEqual(orders_counted(ALL_FREE, row), due)
            self.assertEqual(pasts_counted(ALL_FREE, row), math.prod(count + 1 for count in counts))

    def test_just_500_rows(self):
        self.assertEqual(orders_counted(HOUSE, JUST_500), 500)
        told = orders(HOUSE, JUST_500)
        self.assertEqual(told, sorted(heap_with_distances(HOUSE, JUST_500)))
        self.assertEqual(len(told), 500)

    def test_one_more_than_500(self):
        self.assertEqual(len(heap_with_distances(LADDER, JUST_501)), 501)
        self.assertEqual(orders_counted(LADDER, JUST_501), 501)
        with self.assertRaises(TooMany):
            orders(LADDER, JUST_501)

    def test_nearly_500(self):
        row = "bb" + "y" * 30
        self.assertEqual(orders_counted(TWO_LETTERS, row), 496)
        self.assertEqual(orders(TWO_LETTERS, row), sorted(heap_with_distances(TWO_LETTERS, row)))
        self.assertEqual(orders_counted(TWO_LETTERS, row + "y"), 528)
        with self.assertRaises(TooMany):
            orders(TWO_LETTERS, row + "y")

    def test_each_row_of_a_heap_answers_the_same(self):
        chance = random.Random(21)
        for house in HEAP_HOUSES:
            for row in random_rows(house, 3, 30):
                other = shuffled(chance, house, row, 100)
                self.assertEqual(orders_counted(house, other), orders_counted(house, row))
                self.assertEqual(pasts_counted(house, other), pasts_counted(house, row))
            for row in random_rows(house, 3, 6):
                self.assertEqual(orders(house, shuffled(chance, house, row, 20)), orders(house, row))


class TestLongRows(unittest.TestCase):
    def test_known_counts(self):
        self.assertEqual(orders_counted(TWO_LETTERS, "by" * 20), math.comb(40, 20))
        self.assertEqual(pasts_counted(TWO_LETTERS, "by" * 20), 441)
        self.assertEqual(orders_counted(HOUSE, "abcba" * 8), 2 * 6 ** 7 * 2)
        self.assertEqual(orders_counted(ALL_FREE, "abcd" * 10), math.factorial(40) // math.factorial(10) ** 4)
        self.assertEqual(pasts_counted(ALL_FREE, "abcd" * 10), 11 ** 4)

    def test_rows_of_forty_letters(self):
        for row in random_rows(HOUSE, 10, 40):
            # c has a hand in common with all: the parts between are ordered, and parted, each by itself.
            parts = [(part.count("a"), part.count("b")) for part in row.split("c")]
            due = math.prod(math.comb(a + b, a) for a, b in parts)
            self.assertEqual(orders_counted(HOUSE, row), due)
            self.assertEqual(pasts_counted(HOUSE, row), sum((a + 1) * (b + 1) for a, b in parts))
            if due > 500:
                with self.assertRaises(TooMany):
                    orders(HOUSE, row)

    def test_forty_letters_and_few_rows(self):
        row = "c" * 15 + "ab" + "c" * 16 + "abb" + "c" * 4
        due = ["c" * 15 + one + "c" * 16 + other + "c" * 4 for one in ["ab", "ba"] for other in ["abb", "bab", "bba"]]
        self.assertEqual(orders(HOUSE, row), due)

    def test_within_a_short_time(self):
        begun = time.process_time()
        for house in HEAP_HOUSES:
            for row in random_rows(house, 3, 40):
                count = orders_counted(house, row)
                pasts_counted(house, row)
                if count > 500:
                    with self.assertRaises(TooMany):
                        orders(house, row)
        self.assertLess(time.process_time() - begun, 30)


class TestRefusals(unittest.TestCase):
    def test_no_house_is_first(self):
        for house in NO_HOUSES + ODD_THINGS:
            for row in ["a", "ab" * 20, "?", None]:
                for ask in [orders_counted, pasts_counted, orders]:
                    with self.assertRaises(NoHouse, msg=repr(house)):
                        ask(house, row)

    def test_no_row(self):
        for row in NO_ROWS + ODD_THINGS + ["ab" * 20 + "d"]:
            for ask in [orders_counted, pasts_counted, orders]:
                with self.assertRaises(NoRow, msg=repr(row)):
                    ask(HOUSE, row)

    def test_what_is_handed_in_stays(self):
        house = copy.deepcopy(WIDE)
        for ask in [orders_counted, pasts_counted, orders]:
            ask(house, "zamcyd")
        with self.assertRaises(TooMany):
            orders(house, "acdy" * 10)
        self.assertEqual(house, WIDE)

    def test_the_told_list_is_the_askers_own(self):
        for row in ["", "bac"]:
            told, again = orders(HOUSE, row), orders(HOUSE, row)
            due = list(told)
            told.append("x")
            self.assertEqual(again, due)
            self.assertEqual(orders(HOUSE, row), due)

    def test_a_changed_house_answers_anew(self):
        house = copy.deepcopy(HOUSE)
        self.assertEqual(orders(house, "ba"), ["ab", "ba"])
        house[1][0][1].append(1)
        self.assertEqual(orders(house, "ba"), ["ba"])
        self.assertEqual(orders_counted(house, "ba"), 1)
        self.assertEqual(pasts_counted(house, "ba"), 3)
