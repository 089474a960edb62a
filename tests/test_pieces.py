import copy
import itertools
import random
import unittest

from handsapart.errors import NoHouse, NoRow, Unlike
from handsapart.pieces import pieces
from tests.samples import (
    ALL_FREE, HEAP_HOUSES, HOUSE, MANY_FREE, NO_HOUSES, NO_ROWS, NONE_FREE, ODD_THINGS, RING, WIDE, exchanged, free,
    heap_with_distances, is_first_of_its_heap, letters, looks_alike, random_row, rows_up_to, shuffled,
)


def cut(chance, house, row):
    """Two rows, of which the one with the other behind it is alike the row."""
    order = shuffled(chance, house, row, 6 * len(row))
    size = chance.randint(0, len(row))
    return shuffled(chance, house, order[:size], 20), shuffled(chance, house, order[size:], 20)


def least_by_exchanges(house, row):
    return min(heap_with_distances(house, row))


class PiecesCase(unittest.TestCase):
    def check(self, house, one, two, three, four):
        told = pieces(house, one, two, three, four)
        self.assertIsInstance(told, tuple)
        p, q, r, s = told
        for row in told:
            self.assertIsInstance(row, str)
            self.assertTrue(is_first_of_its_heap(house, row), row)
        for row, whole in [(one, p + q), (two, r + s), (three, p + r), (four, q + s)]:
            self.assertTrue(looks_alike(house, row, whole), (one, two, three, four, told))
        for letter in q:
            self.assertTrue(all(free(house, letter, other) for other in r), told)
        return told


class TestPieces(PiecesCase):
    def test_some_rows(self):
        self.assertEqual(self.check(HOUSE, "a", "b", "b", "a"), ("", "a", "b", ""))
        self.assertEqual(self.check(HOUSE, "ab", "c", "b", "ac"), ("b", "a", "", "c"))
        self.assertEqual(self.check(HOUSE, "bca", "bb", "bcb", "ab"), ("bc", "a", "b", "b"))
        self.assertEqual(self.check(ALL_FREE, "dcba", "dd", "dd", "abcd"), ("d", "abc", "d", "d"))
        self.assertEqual(self.check(RING, "ab", "dcd", "bad", "cd"), ("ab", "", "d", "cd"))

    def test_the_same_letter_in_all_pieces(self):
        self.assertEqual(self.check(HOUSE, "aaa", "aaaa", "aaaaa", "aa"), ("aaa", "", "aa", "aa"))
        self.assertEqual(self.check(HOUSE, "aab", "abb", "abbb", "aa"), ("ab", "a", "bb", "a"))

    def test_some_rows_without_letters(self):
        for house in HEAP_HOUSES:
            row = "".join(letters(house)) * 2
            due = self.check(house, "", row, "", row)[3]
            self.assertEqual(pieces(house, "", row, "", row), ("", "", "", due))
            self.assertEqual(self.check(house, row, "", row, ""), (due, "", "", ""))
            self.assertEqual(self.check(house, row, "", "", row), ("", due, "", ""))
            self.assertEqual(self.check(house, "", row, row, ""), ("", "", due, ""))
            for size in range(len(row)):
                one, two = row[:size], row[size:]
                self.check(house, one, two, row, "")
                self.check(house, "", row, one, two)
                self.check(house, row, "", one, two)
                self.check(house, one, two, "", row)

    def test_all_four_without_letters(self):
        for house in HEAP_HOUSES:
            self.assertEqual(pieces(house, "", "", "", ""), ("", "", "", ""))

    def test_all_short_rows(self):
        for house, length in [(HOUSE, 2), (ALL_FREE, 1), (RING, 1)]:
            for four in itertools.product(rows_up_to(house, length), repeat=4):
                heap = heap_with_distances(house, four[0] + four[1])
                if four[2] + four[3] in heap:
                    told = self.check(house, *four)
                    self.assertEqual(told, tuple(least_by_exchanges(house, row) for row in told))
                else:
                    with self.assertRaises(Unlike, msg=repr(four)):
                        pieces(house, *four)

    def test_one_and_only_four_heaps(self):
        # Of all rows that are put together as asked for, all are in the told heaps.
        for one, two, three, four in [("ab", "cb", "b", "acb"), ("aab", "b", "abb", "a"), ("b", "ca", "b", "ca")]:
            told = pieces(HOUSE, one, two, three, four)
            rows = list(rows_up_to(HOUSE, 3))
            for p, q in itertools.product(rows, repeat=2):
                if looks_alike(HOUSE, p + q, one):
                    for r, s in itertools.product(rows, repeat=2):
                        whole = looks_alike(HOUSE, r + s, two) and looks_alike(HOUSE, p + r, three)
                        if whole and looks_alike(HOUSE, q + s, four):
                            if all(free(HOUSE, x, y) for x in q for y in r):
                                found = tuple(least_by_exchanges(HOUSE, row) for row in (p, q, r, s))
                                self.assertEqual(found, told)

    def test_drawn_rows_cut_in_two_ways(self):
        chance = random.Random(13)
        for house in HEAP_HOUSES:
            for length in [1, 2, 5, 9, 14, 40]:
                for i in range(5):
                    row = random_row(chance, house, length)
                    self.check(house, *cut(chance, house, row), *cut(chance, house, row))

    def test_four_rows_of_forty_letters(self):
        chance = random.Random(14)
        for house in [HOUSE, ALL_FREE, NONE_FREE, RING, MANY_FREE, WIDE]:
            row = random_row(chance, house, 80)
            other = shuffled(chance, house, row, 600)
            self.check(house, row[:40], row[40:], other[:40], other[40:])

    def test_drawn_pieces_are_found_again(self):
        chance = random.Random(15)
        house = (4, [("a", [0]), ("b", [0, 1]), ("c", [1]), ("d", [2]), ("e", [2, 3]), ("f", [0, 1, 2, 3])])
        for i in range(40):
            p, s = random_row(chance, house, 8), random_row(chance, house, 8)
            q = "".join(chance.choice("abc") for place in range(7))
            r = "".join(chance.choice("de") for place in range(6))
            rows = [shuffled(chance, house, row, 50) for row in (p + q, r + s, p + r, q + s)]
            told = self.check(house, *rows)
            for row, found in zip([p, q, r, s], told):
                self.assertTrue(looks_alike(house, row, found))


class TestUnlike(PiecesCase):
    def test_a_letter_more(self):
        for rows in [("ab", "c", "ba", ""), ("ab", "", "ba", "c"), ("a", "", "", ""), ("", "a", "b", "a")]:
            with self.assertRaises(Unlike, msg=repr(rows)):
                pieces(HOUSE, *rows)

    def test_a_letter_other(self):
        for rows in [("ab", "c", "bb", "c"), ("ab", "c", "ab", "a"), ("a", "", "b", ""), ("", "c", "b", "")]:
            with self.assertRaises(Unlike, msg=repr(rows)):
                pieces(HOUSE, *rows)

    def test_the_same_letters_in_another_order(self):
        for rows in [("ac", "b", "a", "bc"), ("a", "c", "c", "a"), ("c", "ab", "ab", "c"), ("ab", "ca", "ac", "ba")]:
            with self.assertRaises(Unlike, msg=repr(rows)):
                pieces(HOUSE, *rows)

    def test_drawn_rows_with_two_letters_exchanged_that_are_not_free(self):
        chance = random.Random(16)
        tried = 0
        for house in HEAP_HOUSES:
            for i in range(10):
                row = random_row(chance, house, 12)
                one, two = cut(chance, house, row)
                three, four = cut(chance, house, row)
                for place in range(11):
                    whole = three + four
                    if whole[place] != whole[place + 1] and not free(house, whole[place], whole[place + 1]):
                        tried += 1
                        whole = exchanged(whole, place)
                        with self.assertRaises(Unlike):
                            pieces(house, one, two, whole[:len(three)], whole[len(three):])
                        with self.assertRaises(Unlike):
                            pieces(house, whole[:5], whole[5:], one, two)
        self.assertGreater(tried, 100)


class TestRefusals(unittest.TestCase):
    def test_no_house_is_first(self):
        for house in NO_HOUSES + ODD_THINGS:
            for rows in [("a", "b", "b", "a"), ("a", "b", "b", "b"), (None, 0, "?", "a")]:
                with self.assertRaises(NoHouse, msg=repr(house)):
                    pieces(house, *rows)

    def test_no_row_in_each_place(self):
        for row in NO_ROWS + ODD_THINGS:
            for place in range(4):
                for rows in [["", "", "", ""], ["a", "b", "b", "a"], ["a", "c", "b", "c"]]:
                    rows[place] = row
                    with self.assertRaises(NoRow, msg=repr(row)):
                        pieces(HOUSE, *rows)

    def test_what_is_handed_in_stays(self):
        house, row = copy.deepcopy(WIDE), ["a"]
        pieces(house, "ac", "d", "cd", "a")
        for rows in [("a", "c", "c", row), ("a", "c", "c", "c")]:
            with self.assertRaises((NoRow, Unlike)):
                pieces(house, *rows)
        self.assertEqual((house, row), (WIDE, ["a"]))

    def test_a_changed_house_answers_anew(self):
        house = copy.deepcopy(HOUSE)
        self.assertEqual(pieces(house, "a", "b", "b", "a"), ("", "a", "b", ""))
        house[1][0][1].append(1)
        with self.assertRaises(Unlike):
            pieces(house, "a", "b", "b", "a")
