import copy
import itertools
import random
import unittest

from handsapart.errors import NoHouse, NoPast, NoRow
from handsapart.pasts import cut_by, is_below, is_past, past, past_of, tops
from tests.samples import (
    ALL_FREE, BIG, HEAP_HOUSES, HOUSE, IDLE_HAND, MANY_FREE, NO_HOUSES, NO_ROWS, NONE_FREE, ODD_THINGS, RING, WIDE,
    chained, lists_in, looks_alike, nest, random_row, random_rows, rows_up_to,
)

ROW = "abcab"
# Things that are no past of ROW in HOUSE: its pasts are [], [0], [1], [0, 1], and with these 2, then 3 and 4.
NO_PASTS = [
    None, True, False, 0, 1, -1, BIG, "", "0", "01", "abcab", (), (0,), (0, 1), (0, 1, 2), ([],), ([0],), [[]], [()],
    [[0]], [(0,)], [None], ["0"], [""], ["a"], [True], [False], [0, True], [False, 1], [0, True, 2], [False, True],
    [0, 1, 2, True], [-1], [-1, 0], [0, -1], [-5], [5], [0, 5], [0, 1, 2, 3, 4, 5], [0, 1, 2, 5], [0, BIG], [-BIG],
    [1, 0], [0, 0], [0, 1, 1], [0, 1, 2, 4, 3], [0, 1, 1, 2], [1, 0, 2], [2], [0, 2], [1, 2], [3], [4], [0, 3],
    [0, 1, 3], [0, 1, 4], [0, 1, 3, 4], [1, 2, 3], [0, 2, 3], [0, 1, [2]], [0, None], [0, 1, "2"], [[0, 1]], nest(16),
    [0] * 1150, [0, 1] * 500, list(range(1150)),
]


def along_chains(house, row, i, j):
    """Whether some chain leads from i to j, each step gone along one by one."""
    if i == j:
        return True
    return any(set(dict(house[1])[row[i]]) & set(dict(house[1])[row[k]]) and along_chains(house, row, k, j)
               for k in range(i + 1, j + 1))


def all_pasts(house, row):
    below = chained(house, row)
    for marks in itertools.product([False, True], repeat=len(row)):
        places = [place for place in range(len(row)) if marks[place]]
        yield places, all(below[place] <= set(places) for place in places)


def drawn_past(chance, house, row):
    """What lies below some drawn deeds."""
    below = chained(house, row)
    known = set()
    for place in range(len(row)):
        if chance.randrange(len(row)) < 3:
            known |= below[place]
    return sorted(known)


class TestBelow(unittest.TestCase):
    def test_some_rows(self):
        self.assertIs(is_below(HOUSE, ROW, 0, 2), True)
        self.assertIs(is_below(HOUSE, ROW, 0, 4), True)
        self.assertIs(is_below(HOUSE, ROW, 0, 1), False)
        self.assertIs(is_below(HOUSE, ROW, 3, 4), False)
        self.assertIs(is_below(HOUSE, ROW, 2, 0), False)
        told = [past_of(HOUSE, ROW, place) for place in range(5)]
        self.assertEqual(told, [[0], [1], [0, 1, 2], [0, 1, 2, 3], [0, 1, 2, 4]])

    def test_each_deed_is_below_itself(self):
        for house in HEAP_HOUSES:
            for row in random_rows(house, 3, 9):
                for place in range(9):
                    self.assertIs(is_below(house, row, place, place), True)

    def test_against_chains_gone_along_one_by_one(self):
        for house in HEAP_HOUSES:
            for row in list(rows_up_to(house, 2)) + random_rows(house, 8, 4) + random_rows(house, 8, 7):
                for j in range(len(row)):
                    due = [i for i in range(len(row)) if i <= j and along_chains(house, row, i, j)]
                    self.assertEqual(past_of(house, row, j), due, (row, j))
                    for i in range(len(row)):
                        self.assertIs(is_below(house, row, i, j), i in due, (row, i, j))

    def test_one_hands_letters(self):
        house = (2, [("a", [0]), ("b", [0]), ("c", [1])])
        row = "abbabaab"
        for place in range(8):
            self.assertEqual(past_of(house, row, place), list(range(place + 1)))

    def test_all_letters_free(self):
        for row in random_rows(ALL_FREE, 5, 40):
            for j in range(40):
                self.assertEqual(past_of(ALL_FREE, row, j), [i for i in range(j + 1) if row[i] == row[j]])

    def test_chains_over_several_hands(self):
        # a: 0 and 1, c: 1 and 2, b: 2 and 3.
        self.assertIs(is_below(RING, "acb", 0, 2), True)
        self.assertIs(is_below(RING, "abc", 0, 1), False)
        self.assertIs(is_below(RING, "bca", 0, 2), True)
        self.assertEqual(past_of(RING, "acb", 2), [0, 1, 2])
        self.assertEqual(past_of(RING, "abcd", 3), [0, 1, 3])

    def test_a_chain_goes_along_the_row(self):
        # Both a and b have a hand in common with c, but c stands behind the last b.
        self.assertEqual(past_of(HOUSE, "abc", 1), [1])
        self.assertIs(is_below(HOUSE, "acb", 0, 2), True)
        self.assertIs(is_below(HOUSE, "abc", 0, 1), False)

    def test_rows_of_forty_letters(self):
        for house in HEAP_HOUSES:
            for row in random_rows(house, 3, 40):
                below = chained(house, row)
                for j in range(40):
                    self.assertEqual(past_of(house, row, j), sorted(below[j]))
                for i in range(0, 40, 3):
                    self.assertIs(is_below(house, row, i, 39), i in below[39])


class TestPast(unittest.TestCase):
    def test_some_rows(self):
        self.assertEqual(past(HOUSE, "abcab", [0]), [0, 1, 2, 3])
        self.assertEqual(past(HOUSE, "abcab", [1]), [0, 1, 2, 4])
        self.assertEqual(past(HOUSE, "aab", [0]), [0, 1])
        self.assertEqual(past(HOUSE, "aab", [0, 1]), [0, 1, 2])

    def test_no_hands_and_all_hands(self):
        for house in HEAP_HOUSES:
            for row in ["", letters_twice(house)] + random_rows(house, 4, 12):
                self.assertEqual(past(house, row, []), [])
                self.assertEqual(past(house, row, list(range(house[0]))), list(range(len(row))))

    def test_hands_without_letters(self):
        self.assertEqual(past(IDLE_HAND, "fghgf", [0]), [])
        self.assertEqual(past(IDLE_HAND, "fghgf", [0, 2]), [])
        self.assertEqual(past(IDLE_HAND, "fghgf", [2, 3]), [0, 1, 2, 3])

    def test_each_set_of_hands(self):
        for house in HEAP_HOUSES:
            for row in list(rows_up_to(house, 2)) + random_rows(house, 5, 6) + random_rows(house, 2, 40):
                below = chained(house, row)
                for marks in itertools.product([False, True], repeat=house[0]):
                    hands = [hand for hand in range(house[0]) if marks[hand]]
                    due = set()
                    for place, letter in enumerate(row):
                        if set(dict(house[1])[letter]) & set(hands):
                            due |= below[place]
                    self.assertEqual(past(house, row, hands), sorted(due))

    def test_what_is_told_is_a_past(self):
        for house in HEAP_HOUSES:
            for row in random_rows(house, 3, 20):
                for hand in range(house[0]):
                    self.assertIs(is_past(house, row, past(house, row, [hand])), True)
                for place in range(20):
                    self.assertIs(is_past(house, row, past_of(house, row, place)), True)


def letters_twice(house):
    return "".join(entry[0] for entry in house[1]) * 2


class TestIsPast(unittest.TestCase):
    def test_some_pasts(self):
        for places in [[], [0], [1], [0, 1], [0, 1, 2], [0, 1, 2, 3], [0, 1, 2, 4], [0, 1, 2, 3, 4]]:
            self.assertIs(is_past(HOUSE, ROW, places), True, places)

    def test_no_pasts(self):
        for thing in NO_PASTS + [thing for thing in ODD_THINGS if thing != []]:
            self.assertIs(is_past(HOUSE, ROW, thing), False, thing)

    def test_the_row_without_letters(self):
        for house in HEAP_HOUSES:
            self.assertIs(is_past(house, "", []), True)
            for thing in [[0], [-1], (), None, "", 0, [[]], True, [False]]:
                self.assertIs(is_past(house, "", thing), False)

    def test_all_sets_of_deeds(self):
        for house in HEAP_HOUSES:
            for row in list(rows_up_to(house, 2)) + random_rows(house, 6, 5) + random_rows(house, 2, 8):
                for places, due in all_pasts(house, row):
                    self.assertIs(is_past(house, row, places), due, (row, places))

    def test_pasts_put_together_and_what_two_have_in_common(self):
        chance = random.Random(17)
        for house in HEAP_HOUSES:
            for row in random_rows(house, 5, 20):
                one, other = drawn_past(chance, house, row), drawn_past(chance, house, row)
                self.assertIs(is_past(house, row, sorted(set(one) | set(other))), True)
                self.assertIs(is_past(house, row, sorted(set(one) & set(other))), True)

    def test_a_past_without_one_of_its_deeds(self):
        for house in HEAP_HOUSES:
            for row in random_rows(house, 3, 40):
                below = chained(house, row)
                for left in range(40):
                    places = [place for place in range(40) if place != left]
                    due = not any(left in below[place] for place in places)
                    self.assertIs(is_past(house, row, places), due)

    def test_a_changed_list_is_looked_at_anew(self):
        places = [0, 1]
        self.assertIs(is_past(HOUSE, ROW, places), True)
        places.append(4)
        self.assertIs(is_past(HOUSE, ROW, places), False)


class TestTops(unittest.TestCase):
    def test_some_pasts(self):
        self.assertEqual(tops(HOUSE, ROW, []), [])
        self.assertEqual(tops(HOUSE, ROW, [0]), [0])
        self.assertEqual(tops(HOUSE, ROW, [0, 1]), [0, 1])
        self.assertEqual(tops(HOUSE, ROW, [0, 1, 2]), [2])
        self.assertEqual(tops(HOUSE, ROW, [0, 1, 2, 3]), [3])
        self.assertEqual(tops(HOUSE, ROW, [0, 1, 2, 3, 4]), [3, 4])

    def test_the_row_without_letters(self):
        for house in HEAP_HOUSES:
            self.assertEqual(tops(house, "", []), [])

    def test_all_pasts_of_short_rows(self):
        for house in HEAP_HOUSES:
            for row in list(rows_up_to(house, 2)) + random_rows(house, 6, 5) + random_rows(house, 2, 8):
                below = chained(house, row)
                for places, due in all_pasts(house, row):
                    if due:
                        told = [i for i in places if not any(i in below[j] for j in places if j != i)]
                        self.assertEqual(tops(house, row, places), told, (row, places))

    def test_rows_of_forty_letters(self):
        chance = random.Random(18)
        for house in HEAP_HOUSES:
            for row in random_rows(house, 4, 40):
                below = chained(house, row)
                for places in [drawn_past(chance, house, row), list(range(40))]:
                    told = [i for i in places if not any(i in below[j] for j in places if j != i)]
                    self.assertEqual(tops(house, row, places), told)

    def test_all_letters_free(self):
        self.assertEqual(tops(ALL_FREE, "abcdabcd", list(range(8))), [4, 5, 6, 7])

    def test_a_past_is_what_lies_below_its_tops(self):
        chance = random.Random(19)
        for row in random_rows(MANY_FREE, 10, 20):
            places = drawn_past(chance, MANY_FREE, row)
            below = chained(MANY_FREE, row)
            self.assertEqual(sorted(set().union(*[below[top] for top in tops(MANY_FREE, row, places)])), places)


class TestCutBy(unittest.TestCase):
    def test_some_pasts(self):
        self.assertEqual(cut_by(HOUSE, ROW, []), ("", "abcab"))
        self.assertEqual(cut_by(HOUSE, ROW, [1]), ("b", "acab"))
        self.assertEqual(cut_by(HOUSE, ROW, [0, 1, 2, 4]), ("abcb", "a"))
        self.assertEqual(cut_by(HOUSE, ROW, [0, 1, 2, 3, 4]), ("abcab", ""))
        self.assertEqual(cut_by(HOUSE, "", []), ("", ""))

    def test_all_pasts_of_short_rows(self):
        for house in HEAP_HOUSES:
            for row in list(rows_up_to(house, 2)) + random_rows(house, 6, 5) + random_rows(house, 2, 8):
                for places, due in all_pasts(house, row):
                    if due:
                        self.check(house, row, places)

    def test_rows_of_forty_letters(self):
        chance = random.Random(20)
        for house in HEAP_HOUSES:
            for i in range(4):
                row = random_row(chance, house, 40)
                self.check(house, row, drawn_past(chance, house, row))

    def check(self, house, row, places):
        told = cut_by(house, row, places)
        self.assertIsInstance(told, tuple)
        within = "".join(row[place] for place in places)
        beyond = "".join(row[place] for place in range(len(row)) if place not in places)
        self.assertEqual(told, (within, beyond))
        self.assertTrue(looks_alike(house, within + beyond, row))


class TestRefusals(unittest.TestCase):
    def asked(self, house, row, places):
        return [
            lambda: is_below(house, row, 0, 0), lambda: past_of(house, row, 0), lambda: past(house, row, [0]),
            lambda: is_past(house, row, places), lambda: tops(house, row, places), lambda: cut_by(house, row, places),
        ]

    def test_no_house_is_first(self):
        for house in NO_HOUSES + ODD_THINGS:
            for row, places in [("a", []), ("a", [7]), ("?", []), (None, None)]:
                for ask in self.asked(house, row, places):
                    with self.assertRaises(NoHouse, msg=repr(house)):
                        ask()

    def test_no_row_is_ahead_of_no_past(self):
        for row in NO_ROWS + ODD_THINGS:
            for places in [[], [0], (), None]:
                for ask in self.asked(HOUSE, row, places):
                    with self.assertRaises(NoRow, msg=repr(row)):
                        ask()

    def test_no_past(self):
        for thing in NO_PASTS + [thing for thing in ODD_THINGS if thing != []]:
            for ask in [tops, cut_by]:
                with self.assertRaises(NoPast, msg=repr(thing)):
                    ask(HOUSE, ROW, thing)

    def test_what_is_handed_in_stays(self):
        house, places, hands = copy.deepcopy(WIDE), [0, 1, 2, 3], [0, 2]
        row = "acmzay"
        for ask in self.asked(house, row, places):
            ask()
        past(house, row, hands)
        self.assertEqual((house, places, hands), (WIDE, [0, 1, 2, 3], [0, 2]))
        for wrong in [[3, 1], [4], (0,)]:
            kept = copy.deepcopy(wrong)
            for ask in [tops, cut_by]:
                with self.assertRaises(NoPast):
                    ask(house, row, wrong)
            self.assertEqual(wrong, kept)

    def test_told_lists_are_new_and_the_askers_own(self):
        house, places, hands = copy.deepcopy(HOUSE), [0, 1], [0, 1]
        asks = [
            lambda: past_of(house, ROW, 0), lambda: past_of(house, ROW, 4), lambda: past(house, ROW, hands),
            lambda: past(house, "", hands), lambda: tops(house, ROW, places), lambda: tops(house, ROW, []),
        ]
        for ask in asks:
            told, again = ask(), ask()
            due = list(told)
            for one in lists_in(house) + [places, hands, again]:
                self.assertIsNot(told, one)
            told.append(9)
            self.assertEqual(again, due)
            self.assertEqual(ask(), due)
        self.assertEqual((house, places, hands), (HOUSE, [0, 1], [0, 1]))

    def test_a_changed_house_answers_anew(self):
        house = copy.deepcopy(HOUSE)
        told = past_of(house, "ab", 1)
        self.assertIs(is_past(house, "ab", [1]), True)
        house[1][0][1].append(1)
        self.assertEqual(told, [1])
        self.assertEqual(past_of(house, "ab", 1), [0, 1])
        self.assertIs(is_past(house, "ab", [1]), False)
        with self.assertRaises(NoPast):
            cut_by(house, "ab", [1])

    def test_a_row_with_no_free_letters(self):
        for row in random_rows(NONE_FREE, 4, 12):
            for size in range(13):
                self.assertIs(is_past(NONE_FREE, row, list(range(size))), True)
                self.assertEqual(tops(NONE_FREE, row, list(range(size))), [size - 1] if size else [])
                self.assertIs(is_past(NONE_FREE, row, list(range(1, size + 1))), size == 0)
