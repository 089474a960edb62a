import copy
import itertools
import random
import time
import unittest

from handsapart.errors import Falls, NoHouse, NoSet, TooMany
from handsapart.judging import judged
from handsapart.machines import is_machine, least, lets
from handsapart.rows import least_row
from handsapart.sets import is_set, machine_of
from tests.samples import (
    ALL_FREE, BIG, HEAP_HOUSES, HOUSE, MANY_FREE, NO_HOUSES, NONE_FREE, ODD_THINGS, ONE_LETTER, RING, TWO_LETTERS, WIDE,
    letters, lists_in, nest, random_row, random_rows, shuffled, walk,
)
from tests.worded import Worded, all_ways, least_if_small

THREE_FREE = (3, [("a", [0]), ("b", [1]), ("c", [2])])
PATH = (3, [("a", [0]), ("b", [0, 1]), ("c", [1, 2]), ("d", [2])])
A, B, C = ("row", "a"), ("row", "b"), ("row", "c")
NONE = ("row", "")
ANY = ("not", ("both", A, B))


def nots(count, one):
    for i in range(count):
        one = ("not", one)
    return one


def eithers(ones):
    one = ones[-1]
    for other in reversed(ones[:-1]):
        one = ("either", other, one)
    return one


SETS = [
    A, NONE, ("row", "abca"), ("again", ""), ("again", "ac"), ("again", "cacb"), ("not", A), ("either", A, B),
    ("both", A, B), ("then", A, B), ("then", ("again", "ac"), ("not", ("row", "abc"))), nots(11, A),
    nots(11, ("again", "abcc")), nots(3, eithers([A, B, C, A, ("again", "c")])), eithers([A, A, A, A, A]),
    ("either", ("either", A, B), ("either", A, ("then", B, C))),
]

NO_SETS = [
    # rows
    ("row", "abcab"), ("row", "aaaaa"), ("again", "ccccc"), ("row", "d"), ("row", "abcd"), ("again", "d"), ("row", "-"),
    ("again", "-"), ("row", "A"), ("row", " "), ("row", "a "), ("row", None), ("row", 0), ("row", True), ("row", []),
    ("row", ["a"]), ("row", ("a",)), ("again", None), ("again", ("a",)), ("row", A), ("again", A), ("again", ()),
    # how many stand behind the first word
    ("row",), ("again",), ("not",), ("either",), ("both",), ("then",), ("row", "a", "b"), ("again", "a", "b"),
    ("not", A, B), ("either", A), ("both", A), ("then", A), ("either", A, B, C), ("both", A, B, C), ("then", A, B, C),
    ("row", "a", A), (),
    # other first words
    ("", "a"), ("Row", "a"), ("ROW", "a"), ("rows", "a"), ("word", "a"), ("or", A, B), ("and", A, B), ("star", A),
    (None, "a"), (0, "a"), (True, A), (A, A), (["row"], "a"), (("row",), "a"), ([], A, B), ((), A), ("a",), ("a", "row"),
    # sets within
    ("not", "a"), ("not", None), ("not", 0), ("not", []), ("not", ()), ("not", list(A)), ("not", ["not", A]),
    ("either", A, "b"), ("either", "a", B), ("both", A, None), ("then", A, ["row", "b"]), ("then", ("row", "d"), A),
    ("then", A, ("row", "abcab")), ("either", A, ("not", ("not", ("row",)))), ("not", nest(12)), ("both", nest(9), A),
    # lists where tuples are due
    ["row", "a"], ["again", "a"], ["not", A], ["either", A, B], [A], [A, B], (A,), (A, B), ((A,),),
    # too many tuples, or rows
    nots(12, A), nots(13, A), nots(12, ("again", "c")), ("both", nots(10, A), B), nots(10, ("then", A, B)),
    eithers([A, B, C, A, B, C]), eithers([NONE] * 6), ("then", eithers([A, B, C]), eithers([A, B, C])),
    nots(4, eithers([A, B, C, A, B])), ("either", nots(5, ("then", A, B)), nots(4, C)),
    # texts
    "row a", "row", "", "not row a",
]


def drawn_set(chance, house, rows, words=("either", "both", "then", "then")):
    """With so many rows; an again has a row of one part alone."""
    if rows > 1:
        here = chance.randint(1, rows - 1)
        one = (chance.choice(words), drawn_set(chance, house, here, words), drawn_set(chance, house, rows - here, words))
    else:
        one = ("row", random_row(chance, house, chance.choice([0, 1, 1, 2, 2, 3, 4])))
        if chance.randrange(2):
            letter = chance.choice(letters(house))
            near = [other for other in letters(house) if set(dict(house[1])[other]) & set(dict(house[1])[letter])]
            one = ("again", letter + "".join(chance.choice(near) for i in range(chance.choice([0, 0, 1, 2, 3]))))
    return ("not", one) if chance.randrange(3) == 0 else one


class TestIsSet(unittest.TestCase):
    def test_sets(self):
        for one in SETS:
            self.assertIs(is_set(HOUSE, one), True, one)

    def test_no_sets(self):
        for thing in NO_SETS + ODD_THINGS + HEAP_HOUSES:
            self.assertIs(is_set(HOUSE, thing), False, thing)

    def test_rows_of_four_and_five_letters(self):
        for word in ["row", "again"]:
            for length in range(5):
                self.assertIs(is_set(HOUSE, (word, "c" * length)), True)
            for length in [5, 6, 40]:
                self.assertIs(is_set(HOUSE, (word, "c" * length)), False)
                self.assertIs(is_set(HOUSE, ("not", (word, "c" * length))), False)

    def test_five_rows_and_six(self):
        for word in ["row", "again"]:
            for count in range(1, 6):
                self.assertIs(is_set(HOUSE, eithers([(word, "a")] * count)), True)
            self.assertIs(is_set(HOUSE, eithers([(word, "a")] * 6)), False)
        self.assertIs(is_set(HOUSE, eithers([("again", "a")] * 3 + [("row", "a")] * 3)), False)
        self.assertIs(is_set(HOUSE, eithers([("again", "")] * 3 + [("row", "")] * 2)), True)

    def test_twelve_tuples_and_thirteen(self):
        for count in [10, 11]:
            self.assertIs(is_set(HOUSE, nots(count, A)), True)
        for count in [12, 13, 15]:
            self.assertIs(is_set(HOUSE, nots(count, A)), False)
        self.assertIs(is_set(HOUSE, nots(3, eithers([A, B, C, A, B]))), True)
        self.assertIs(is_set(HOUSE, nots(4, eithers([A, B, C, A, B]))), False)
        self.assertIs(is_set(HOUSE, ("both", nots(5, A), nots(4, B))), True)
        self.assertIs(is_set(HOUSE, ("both", nots(5, A), nots(5, B))), False)
        self.assertIs(is_set(HOUSE, ("both", nots(9, A), B)), True)

    def test_letters_of_another_house(self):
        self.assertIs(is_set(TWO_LETTERS, ("row", "by")), True)
        self.assertIs(is_set(HOUSE, ("row", "by")), False)
        self.assertIs(is_set(WIDE, ("again", "mz")), True)
        self.assertIs(is_set(WIDE, ("again", "mb")), False)

    def test_things_within_a_set(self):
        for thing in ODD_THINGS + [1, -BIG, "b", nest(13)]:
            for one in [("not", thing), ("either", A, thing), ("then", thing, A), ("both", thing, thing), (thing, A)]:
                self.assertIs(is_set(HOUSE, one), False, one)
            if thing != "":
                for one in [("row", thing), ("again", thing), ("not", ("row", thing))]:
                    due = isinstance(thing, str) and thing == "b"
                    self.assertIs(is_set(HOUSE, one), due, one)

    def test_far_too_deep(self):
        for count in [100, 5000]:
            self.assertIs(is_set(HOUSE, nots(count, A)), False)

    def test_no_house_comes_first(self):
        for house in NO_HOUSES + ODD_THINGS:
            for thing in [A, None]:
                with self.assertRaises(NoHouse, msg=repr(house)):
                    is_set(house, thing)

    def test_what_is_handed_in_stays(self):
        house = copy.deepcopy(HOUSE)
        for thing in SETS + NO_SETS:
            kept = copy.deepcopy(thing)
            is_set(house, thing)
            self.assertEqual(repr(thing), repr(kept))
        self.assertEqual(house, HOUSE)


class SetCase(unittest.TestCase):
    def check(self, house, one, length, worded=None):
        """Against the words, for all heaps of rows of at most so many letters."""
        machine = machine_of(house, one)
        self.assertIs(is_machine(house, machine), True, one)
        self.assertEqual(least(house, machine), machine, one)
        self.assertIsNone(judged(house, machine), one)
        worded = worded or Worded(house)
        for row in worded.first_rows(length):
            self.assertIs(walk(house, machine, 0, row) in machine[1], worded.has(one, row), (house, one, row))
        return machine


class TestMachineOf(SetCase):
    def test_some(self):
        self.assertEqual(machine_of(ONE_LETTER, ("row", "")), ([[1], [1]], [0]))
        self.assertEqual(machine_of(ONE_LETTER, ("row", "q")), ([[1], [2], [2]], [1]))
        self.assertEqual(machine_of(ONE_LETTER, ("again", "qq")), ([[1], [0]], [0]))
        self.assertEqual(machine_of(ONE_LETTER, ("again", "")), ([[1], [1]], [0]))
        self.assertEqual(machine_of(ONE_LETTER, ("not", ("again", "q"))), ([[0]], []))
        self.assertEqual(machine_of(ONE_LETTER, ("not", ("row", ""))), ([[1], [1]], [1]))
        self.assertEqual(machine_of(TWO_LETTERS, ("row", "yb")), ([[1, 2], [3, 4], [4, 3], [3, 3], [3, 3]], [4]))
        self.assertEqual(
            machine_of(HOUSE, ("again", "ab" + "c")),
            ([[1, 2, 3], [3, 4, 3], [4, 3, 3], [3, 3, 3], [3, 3, 0]], [0]),
        )

    def test_each_kind_by_itself(self):
        for house, length in [(HOUSE, 6), (THREE_FREE, 6), (PATH, 6), (RING, 5), (NONE_FREE, 5), (ONE_LETTER, 12)]:
            first = letters(house)[0]
            last = letters(house)[-1]
            worded = Worded(house)
            one, other = ("row", first + last), ("row", last + first + first)
            for made in [
                one, other, ("row", ""), ("row", first * 4), ("again", first), ("again", last * 3), ("again", ""),
                ("not", one), ("not", ("row", "")), ("not", ("again", last)), ("either", one, other),
                ("both", one, other), ("both", one, one), ("then", one, other), ("then", other, one),
                ("then", ("again", first), ("again", last)), ("then", ("row", ""), one), ("then", one, ("row", "")),
                ("then", ("not", one), ("not", one)), ("then", ("again", ""), ("again", "")),
            ]:
                self.check(house, made, length, worded)

    def test_again_of_rows_of_one_part(self):
        for house, length, rows in [
            (HOUSE, 7, ["c", "ac", "ca", "abc", "acb", "cc", "accb", "cabc", "abca", "aacb"]),
            (PATH, 6, ["ab", "abc", "acb", "bac", "bc", "bd" + "c", "abcd", "acbd", "dcba", "badc", "bcbc"]),
            (RING, 6, ["ac", "abc", "acb", "abcd", "acbd", "aabc"]),
            (NONE_FREE, 5, ["a", "ab", "abcd", "abab", "abac"]),
        ]:
            worded = Worded(house)
            for row in rows:
                self.check(house, ("again", row), length, worded)

    def test_again_of_long_rows(self):
        chance = random.Random(40)
        for house, row in [(HOUSE, "acb"), (PATH, "abcd"), (PATH, "dbca"), (RING, "abcd"), (RING, "cabd")]:
            machine = machine_of(house, ("again", row))
            for times in range(11):
                other = shuffled(chance, house, row * times, 400)
                self.assertIs(lets(house, machine, other), True)
                for place in range(len(other)):
                    self.assertIs(lets(house, machine, other[:place] + other[place + 1:]), False)

    def test_not_of_each(self):
        for one in SETS:
            if one[0] != "not" and is_set(HOUSE, ("not", one)):
                moves, good = machine_of(HOUSE, one)
                others = [room for room in range(len(moves)) if room not in good]
                self.assertEqual(machine_of(HOUSE, ("not", one)), (moves, others))
                if is_set(HOUSE, nots(2, one)):
                    self.assertEqual(machine_of(HOUSE, nots(2, one)), (moves, good))

    def test_within_others(self):
        worded = Worded(HOUSE)
        for one in SETS:
            self.check(HOUSE, one, 6, worded)

    def test_then_of_sets_with_and_without_the_row_without_letters(self):
        worded = Worded(HOUSE)
        ones = [
            NONE, A, ("again", "c"), ("not", NONE), ("either", NONE, ("row", "ab")), ("both", A, B),
            ("not", ("both", A, B)),
        ]
        for one, other in itertools.product(ones, ones):
            self.check(HOUSE, ("then", one, other), 5, worded)

    def test_then_of_rows_whose_letters_are_free(self):
        worded = Worded(THREE_FREE)
        for one, other in itertools.product(["a", "ab", "ca", "aab", "bc"], repeat=2):
            machine = self.check(THREE_FREE, ("then", ("row", one), ("row", other)), 5, worded)
            self.assertEqual(machine, machine_of(THREE_FREE, ("then", ("row", other), ("row", one))))
            if len(one + other) <= 4:
                self.assertEqual(machine, machine_of(THREE_FREE, ("row", other + one)))
        self.check(THREE_FREE, ("then", ("again", "a"), ("again", "b")), 6)
        self.check(THREE_FREE, ("then", ("then", ("again", "a"), ("again", "b")), ("not", ("row", "ab"))), 6)

    def test_nothing_and_everything(self):
        for house in HEAP_HOUSES:
            first = ("row", letters(house)[0])
            nothing, everything = ("both", first, ("row", "")), ("either", first, ("not", first))
            width = len(letters(house))
            for one, good in [
                (nothing, []), (everything, [0]), (("then", nothing, everything), []),
                (("then", everything, nothing), []), (("then", everything, everything), [0]),
                (("then", nothing, nothing), []),
            ]:
                self.assertEqual(machine_of(house, one), ([[0] * width], good))

    def test_drawn_sets_against_their_words(self):
        chance = random.Random(41)
        for house, length in [(HOUSE, 6), (THREE_FREE, 5), (PATH, 5), (RING, 5), (TWO_LETTERS, 7)]:
            worded = Worded(house)
            told = 0
            for i in range(40):
                one = drawn_set(chance, house, chance.choice([2, 3, 4]))
                if is_set(house, one):
                    try:
                        self.check(house, one, length, worded)
                        told += 1
                    except TooMany:
                        pass
            self.assertGreater(told, 15)

    def test_longer_rows_against_the_words(self):
        chance = random.Random(42)
        for house in [HOUSE, PATH, RING, MANY_FREE]:
            worded = Worded(house)
            for i in range(12):
                one = drawn_set(chance, house, 3)
                try:
                    machine = machine_of(house, one)
                except TooMany:
                    continue
                for row in random_rows(house, 6, 9):
                    self.assertIs(lets(house, machine, row), worded.has(one, least_row(house, row)), (house, one, row))

    def test_then_against_all_ways(self):
        # For all rows, however long: both are least machines, so they are the same just where they let the same by.
        chance = random.Random(43)
        small, large = 0, 0
        for house in [HOUSE, THREE_FREE, PATH, RING, MANY_FREE, WIDE, NONE_FREE]:
            for i in range(40):
                one, other = [drawn_set(chance, house, chance.choice([1, 1, 2])) for side in range(2)]
                try:
                    machines = [machine_of(house, one), machine_of(house, other)]
                except TooMany:
                    continue
                if len(machines[0][0]) * len(machines[1][0]) > 60:
                    continue
                due = all_ways(house, machines[0], machines[1])
                if due is None:
                    continue
                if len(due[0]) > 30:
                    large += 1
                    with self.assertRaises(TooMany):
                        machine_of(house, ("then", one, other))
                else:
                    small += 1
                    self.assertEqual(machine_of(house, ("then", one, other)), least_if_small(house, due))
        self.assertGreater(small, 150)
        self.assertGreater(large, 0)

    def test_very_many_ways_within_a_short_time(self):
        # Rows stand in thousands of unlike ways, but lead to few rooms.
        begun = time.process_time()
        house = (4, [("a", [1, 3]), ("b", [0, 2]), ("c", [0]), ("d", [2, 3])])
        one = ("both", ("not", ("again", "a")), ("not", ("then", ("not", ("again", "")), ("row", "babb"))))
        self.assertEqual(len(self.check(house, ("then", one, ("not", ("again", "c"))), 5)[0]), 5)
        house = (4, [("a", [0, 3]), ("b", [1, 3]), ("c", [0, 1]), ("d", [0]), ("e", [1])])
        one = ("then", ("not", ("then", ("again", "daba"), ("row", "e"))), ("row", "adbe"))
        self.assertEqual(len(self.check(house, ("then", one, ("not", ("again", "d"))), 4)[0]), 24)
        house = (3, [("a", [0, 2]), ("b", [0, 1]), ("c", [2])])
        one = ("not", ("then", ("not", ("again", "a")), ("row", "cbbc")))
        self.assertEqual(len(self.check(house, ("then", one, ("not", ("again", "ac"))), 6)[0]), 2)
        self.assertLess(time.process_time() - begun, 30)

    def test_same_heaps_same_machine(self):
        for one, other in [
            (("row", "ab"), ("row", "ba")), (("either", A, B), ("either", B, A)), (("again", "acb"), ("again", "acb")),
            (("not", ("either", A, B)), ("both", ("not", A), ("not", B))), (("then", A, B), ("then", B, A)),
            (("then", A, C), ("row", "ac")), (("again", ""), ("row", "")), (("both", ("again", "c"), NONE), NONE),
            (("then", ("again", "c"), ("again", "c")), ("again", "c")),
        ]:
            self.assertEqual(machine_of(HOUSE, one), machine_of(HOUSE, other))

    def test_the_told_lists_are_new_and_the_askers_own(self):
        for one in SETS:
            told, again = machine_of(HOUSE, one), machine_of(HOUSE, one)
            due = copy.deepcopy(told)
            every = lists_in(told) + lists_in(again)
            self.assertEqual(len({id(each) for each in every}), len(every))
            for each in lists_in(told):
                each.append(9)
            self.assertEqual(again, due)
            self.assertEqual(machine_of(HOUSE, one), due)

    def test_what_is_handed_in_stays(self):
        house, sets = copy.deepcopy((HOUSE, SETS))
        for one in sets:
            machine_of(house, one)
        self.assertEqual((house, sets), (HOUSE, SETS))

    def test_a_changed_house_answers_anew(self):
        house = copy.deepcopy(TWO_LETTERS)
        self.assertEqual(len(machine_of(house, ("row", "by"))[0]), 5)
        house[1][0][1].append(1)
        self.assertEqual(len(machine_of(house, ("row", "by"))[0]), 4)


# In ALL_FREE, a row of four unlike letters has sixteen pasts, and so a machine of seventeen rooms.
TOO_LARGE = ("then", ("row", "abcd"), ("not", ("row", "")))
TWELVE = ("both", ("again", "qqq"), ("again", "qqqq"))


class TestTooMany(SetCase):
    def test_just_thirty_rooms_and_more(self):
        for one in [
            ("then", ("not", ("row", "a")), ("row", "bdad")), ("not", ("then", ("row", "cdbd"), ("not", ("row", "c")))),
            ("either", ("row", "cb"), ("then", ("row", "dcc"), ("not", ("row", "bbb")))),
        ]:
            self.assertEqual(len(self.check(ALL_FREE, one, 4)[0]), 30)
        for one in [
            TOO_LARGE, ("then", ("row", "dbd"), ("row", "aaaa")), ("not", ("then", ("row", "dbd"), ("row", "aaaa"))),
            ("either", ("not", ("then", ("not", ("row", "")), ("row", "abdc"))), ("again", "c")),
            ("then", ("row", "bdc"), ("not", ("row", "aa"))),
        ]:
            with self.assertRaises(TooMany, msg=one):
                machine_of(ALL_FREE, one)

    def test_either_and_both_of_too_many_rooms(self):
        # Each of the two has at most thirty, but not both together.
        for one in [
            ("either", ("again", "a"), ("then", ("row", "dabb"), ("not", ("row", "a")))),
            ("both", ("not", ("row", "da")), ("not", ("then", ("row", "bdcd"), ("not", ("row", "c"))))),
        ]:
            for part in one[1:]:
                self.check(ALL_FREE, part, 4)
            with self.assertRaises(TooMany):
                machine_of(ALL_FREE, one)

    def test_rooms_multiplied_just_sixty_and_more(self):
        # Twelve rooms by five, and by six.
        self.assertEqual(len(machine_of(ONE_LETTER, TWELVE)[0]), 12)
        machine = self.check(ONE_LETTER, ("then", TWELVE, ("row", "qqq")), 40)
        self.assertLess(len(machine[0]), 20)
        machine = self.check(ONE_LETTER, ("then", ("row", "qqq"), TWELVE), 40)
        self.assertLess(len(machine[0]), 20)
        for one in [("then", TWELVE, ("row", "qqqq")), ("then", ("row", "qqqq"), TWELVE), ("then", TWELVE, TWELVE)]:
            if is_set(ONE_LETTER, one):
                with self.assertRaises(TooMany):
                    machine_of(ONE_LETTER, one)
        # Seven rooms by nine is the least product above sixty that there can be.
        house = THREE_FREE
        seven, nine = ("row", "aab"), ("row", "aaab")
        self.assertEqual([len(machine_of(house, one)[0]) for one in (seven, nine)], [7, 9])
        for one in [("then", seven, nine), ("then", nine, seven)]:
            with self.assertRaises(TooMany):
                machine_of(house, one)
        self.assertEqual(len(machine_of(house, ("then", seven, seven))[0]), 5 * 3 + 1)

    def test_rooms_multiplied_are_those_of_least_machines(self):
        # Rows "qqqq" and "qqqq" in common, put in many words, have six rooms.
        row = ("row", "qqqq")
        one = ("both", row, ("not", ("row", "q")))
        self.assertEqual(machine_of(ONE_LETTER, one), machine_of(ONE_LETTER, row))
        self.check(ONE_LETTER, ("then", one, ("either", row, row)), 20)

    def test_a_part_that_has_too_many_while_the_whole_has_few(self):
        for one in [
            ("both", TOO_LARGE, ("row", "")), ("both", ("row", ""), TOO_LARGE), ("either", TOO_LARGE, ("not", TOO_LARGE)),
            ("not", ("both", ("row", "a"), ("not", TOO_LARGE))), ("then", TOO_LARGE, ("both", ("row", "a"), ("row", ""))),
            ("both", ("row", "a"), ("not", ("then", ("row", "bdc"), ("not", ("row", "aa"))))),
        ]:
            self.assertIs(is_set(ALL_FREE, one), True)
            with self.assertRaises(TooMany, msg=one):
                machine_of(ALL_FREE, one)

    def test_a_then_within_that_has_too_many(self):
        nothing = ("both", ("row", "q"), ("row", ""))
        for one in [("both", ("then", TWELVE, ("row", "qqqq")), ("row", "")), nots(3, ("then", TWELVE, ("row", "qqqq")))]:
            with self.assertRaises(TooMany):
                machine_of(ONE_LETTER, one)
        self.assertEqual(machine_of(ONE_LETTER, ("then", nothing, TWELVE)), ([[0]], []))

    def test_within_a_short_time(self):
        begun = time.process_time()
        chance = random.Random(44)
        told, many = 0, 0
        for house in [MANY_FREE, WIDE, ALL_FREE, RING]:
            for i in range(60):
                one = drawn_set(chance, house, 5, ("then", "then", "either"))
                if is_set(house, one):
                    try:
                        machine_of(house, one)
                        told += 1
                    except TooMany:
                        many += 1
        self.assertGreater(min(told, many), 20)
        self.assertLess(time.process_time() - begun, 60)


class TestFalls(unittest.TestCase):
    def check(self, house, one, row):
        with self.assertRaises(Falls) as caught:
            machine_of(house, one)
        self.assertEqual(caught.exception.row, row)

    def test_again_of_a_row_of_several_parts(self):
        for row in ["ab", "ba", "aab", "bab", "baab"]:
            self.check(HOUSE, ("again", row), row)
        self.check(ALL_FREE, ("again", "dcba"), "dcba")
        self.check(RING, ("again", "ba"), "ba")
        self.check(PATH, ("again", "abd"), "abd")

    def test_rows_of_at_most_one_part_dont_fall(self):
        for house in HEAP_HOUSES:
            for row in ["", letters(house)[0], letters(house)[-1] * 4]:
                machine_of(house, ("again", row))
        for row in ["abc", "acb", "ca"]:
            machine_of(HOUSE, ("again", row))

    def test_a_plain_row_of_several_parts_doesnt_fall(self):
        machine_of(HOUSE, ("row", "ab"))
        machine_of(HOUSE, ("then", ("row", "ab"), ("again", "c")))

    def test_within_others(self):
        for one in [
            ("not", ("again", "ba")), ("either", A, ("again", "ba")), ("both", ("again", "ba"), A),
            ("then", ("again", "ba"), NONE), nots(11, ("again", "ba")), ("both", ("both", A, B), ("again", "ba")),
        ]:
            self.check(HOUSE, one, "ba")

    def test_the_first_as_the_set_is_read(self):
        first, second = ("again", "ba"), ("again", "aab")
        for one, row in [
            (("either", first, second), "ba"), (("either", second, first), "aab"),
            (("then", ("both", A, first), second), "ba"), (("then", ("again", "c"), ("not", second)), "aab"),
            (("both", ("not", ("not", ("not", second))), first), "aab"),
            (("both", ("then", ("row", "ab"), ("again", "ac")), ("either", first, second)), "ba"),
            (("both", ("either", ("again", ""), ("then", C, second)), first), "aab"),
        ]:
            self.check(HOUSE, one, row)

    def test_ahead_of_too_many(self):
        for one in [
            ("both", TOO_LARGE, ("again", "ba")), ("both", ("again", "ba"), TOO_LARGE),
            ("then", TOO_LARGE, ("not", ("again", "ba"))),
        ]:
            self.check(ALL_FREE, one, "ba")


class TestRefusals(unittest.TestCase):
    def test_no_house_is_ahead_of_all_else(self):
        for house in NO_HOUSES + ODD_THINGS:
            for one in [A, ("again", "ab"), None]:
                with self.assertRaises(NoHouse, msg=repr(house)):
                    machine_of(house, one)

    def test_no_set(self):
        for thing in NO_SETS + ODD_THINGS:
            with self.assertRaises(NoSet, msg=repr(thing)):
                machine_of(HOUSE, thing)

    def test_no_set_is_ahead_of_falls_and_too_many(self):
        for one in [
            ("either", ("again", "ab"), ("row", "d")), ("either", ("again", "ab"), None), nots(12, ("again", "ab")),
            ("again", "ababa"),
        ]:
            with self.assertRaises(NoSet, msg=one):
                machine_of(HOUSE, one)
        with self.assertRaises(NoSet):
            machine_of(ALL_FREE, ("both", TOO_LARGE, ("row", "e")))

    def test_what_is_refused_stays(self):
        house = copy.deepcopy(HOUSE)
        for thing in NO_SETS + [("again", "ab")]:
            kept = copy.deepcopy(thing)
            with self.assertRaises((NoSet, Falls)):
                machine_of(house, thing)
            self.assertEqual(repr(thing), repr(kept))
        self.assertEqual(house, HOUSE)
