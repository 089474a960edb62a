import copy
import itertools
import random
import time
import unittest

from handsapart.errors import NoHouse, NoMachine, NoTable, TooMany, Torn
from handsapart.hands import Hands
from handsapart.judging import judged
from handsapart.machines import least
from handsapart.tables import is_table, row_apart, table_of
from tests.samples import (
    ALL_FREE, BIG, GOSSIP, HOUSE, HOUSES, NO_HOUSES, NO_MACHINES, ODD_THINGS, ONE_LETTER, RING, THREE, TWO_LETTERS,
    WIDE, all_machines, lists_in, nest, random_machines, rows_up_to, walk,
)
from tests.untorn import A_AHEAD, BOTH_ODD, TORN, hands_turning, put_together, untorn_machines

# Both hands count their own letters modulo 2; c lets both stay.
SMALL = [
    ((0, 0), False, (1, 2, 0)), ((1, 0), False, (0, 3, 1)), ((0, 1), False, (3, 0, 2)), ((1, 1), True, (2, 1, 3)),
]
# Letters of both hands, and what the least machine of a table of just so many entries looks like.
JUST_600 = ((2, [("a", [0, 1]), ("b", [0]), ("c", [0, 1]), ("d", [0])]),
            ([[1, 1, 1, 2], [0, 3, 0, 0], [1, 1, 0, 2], [0, 3, 2, 2]], [3]))
JUST_601 = ((2, [("a", [0]), ("b", [0]), ("c", [0])]),
            ([[1, 1, 2], [0, 2, 0], [0, 3, 4], [3, 3, 5], [1, 1, 4], [2, 1, 1]], [0]))


def circle(count):
    """In HOUSE: a turns the memory of hand 0 through so many."""
    return [((i, 0), i == 0, ((i + 1) % count, i, i)) for i in range(count)]


def grid(width, height):
    """In HOUSE: a turns the memory of hand 0, b that of hand 1, c sets both back."""
    table = []
    for i, j in itertools.product(range(width), range(height)):
        follows = ((i + 1) % width * height + j, i * height + (j + 1) % height, 0)
        table.append(((i, j), (i + j) % 3 == 1, follows))
    return table


def with_entry(table, number, entry):
    return table[:number] + [entry] + table[number + 1:]


def with_part(place, part):
    """SMALL, with another thing at this place of its entry 1."""
    return with_entry(SMALL, 1, SMALL[1][:place] + (part,) + SMALL[1][place + 1:])


NO_TABLES = [
    # of another kind, or of another length
    [], (), tuple(SMALL), (SMALL,), [SMALL], SMALL[0], None, "table", 1, True, circle(601), grid(20, 30) + [SMALL[0]],
    # an entry
    with_entry(SMALL, 2, list(SMALL[2])), with_entry(SMALL, 2, SMALL[2][:2]), with_entry(SMALL, 2, SMALL[2] + (0,)),
    with_entry(SMALL, 2, ()), with_entry(SMALL, 2, None), with_entry(SMALL, 2, 2), with_entry(SMALL, 2, "abc"),
    with_entry(SMALL, 0, (False, (0, 0), (1, 2, 0))), SMALL + [None], SMALL + [[]], SMALL + [()],
    # memories
    with_part(0, [1, 0]), with_part(0, (1,)), with_part(0, (1, 0, 0)), with_part(0, ()), with_part(0, None),
    with_part(0, 1), with_part(0, "10"), with_part(0, (-1, 0)), with_part(0, (1, -BIG)), with_part(0, (True, 0)),
    with_part(0, (1, False)), with_part(0, (None, 0)), with_part(0, ("1", 0)), with_part(0, ((1,), 0)),
    with_part(0, ([1], 0)), with_part(0, (1, [])),
    # good
    with_part(1, 0), with_part(1, 1), with_part(1, None), with_part(1, "True"), with_part(1, [True]),
    with_part(1, (True,)), with_part(1, ""), with_part(1, []), with_part(1, -1),
    # follows
    with_part(2, [0, 3, 1]), with_part(2, (0, 3)), with_part(2, (0, 3, 1, 1)), with_part(2, ()), with_part(2, None),
    with_part(2, 0), with_part(2, "031"), with_part(2, (0, 4, 1)), with_part(2, (0, -1, 1)), with_part(2, (0, BIG, 1)),
    with_part(2, (0, 3, True)), with_part(2, (False, 3, 1)), with_part(2, (None, 3, 1)), with_part(2, ("0", 3, 1)),
    with_part(2, ([0], 3, 1)), with_part(2, ((0,), 3, 1)),
    # tables of one entry, with nothing else amiss
    [((-1, 0), True, (0, 0, 0))], [((0, -BIG), True, (0, 0, 0))], [((True, 0), True, (0, 0, 0))],
    [((0, False), True, (0, 0, 0))], [((0, None), True, (0, 0, 0))], [((0, "0"), True, (0, 0, 0))],
    [((0, (0,)), True, (0, 0, 0))], [([0, 0], True, (0, 0, 0))], [((0,), True, (0, 0, 0))],
    [((0, 0, 0), True, (0, 0, 0))], [((0, 0), 1, (0, 0, 0))], [((0, 0), None, (0, 0, 0))],
    [((0, 0), True, [0, 0, 0])], [((0, 0), True, (0, 0))], [((0, 0), True, (0, 0, 0, 0))],
    [((0, 0), True, (0, 0, False))], [((0, 0), True, (0, 0, 1))], [((0, 0), True, (0, 0, -1))],
    [[(0, 0), True, (0, 0, 0)]], [((0, 0), True, (0, 0, 0), ())], (((0, 0), True, (0, 0, 0)),),
    # two entries with the same memories
    with_part(0, (0, 0)), SMALL + [SMALL[0]], SMALL + [((0, 0), True, (1, 2, 0))], [SMALL[0], SMALL[0]],
    [((0, 0), True, (0, 0, 0)), ((0, 0), False, (1, 1, 1))],
    # a follow that changes the memory of a hand that is not the letter's
    with_part(2, (2, 3, 1)), with_part(2, (0, 2, 1)), with_part(2, (0, 0, 1)),
    # entries that look the same to a letter's hands, and follow to unlike memories of these
    with_part(2, (1, 3, 1)), with_part(2, (0, 1, 1)), with_entry(SMALL, 2, ((0, 1), False, (2, 0, 2))),
    # things of other kinds
    nest(8), nest(9), BOTH_ODD,
]


def first_row_apart(house, machine, table, length):
    entries, rooms = {"": 0}, {"": 0}
    for row in rows_up_to(house, length):
        if row:
            letter = [entry[0] for entry in house[1]].index(row[-1])
            entries[row] = table[entries[row[:-1]]][2][letter]
            rooms[row] = machine[0][rooms[row[:-1]]][letter]
        if table[entries[row]][1] != (rooms[row] in machine[1]):
            return row
    return None


def machine_of_table(table):
    return ([list(follows) for memories, good, follows in table],
            [number for number, entry in enumerate(table) if entry[1]])


def table_met(house, machine):
    """By doing rows with Hands, from the row without letters on."""
    def memories_and_good(row):
        hands = Hands(house, machine)
        for letter in row:
            hands.do(letter)
        return tuple(hands.memory(hand) for hand in range(house[0])), hands.is_good()

    rows = [""]
    met = [memories_and_good("")]
    follows = []
    for row in rows:
        follows.append([])
        for letter, own in house[1]:
            behind = memories_and_good(row + letter)
            if behind not in met:
                met.append(behind)
                rows.append(row + letter)
            follows[-1].append(met.index(behind))
    kept = [[] for hand in range(house[0])]
    table = []
    for (memories, good), follow in zip(met, follows):
        for known, memory in zip(kept, memories):
            if memory not in known:
                known.append(memory)
        numbers = tuple(known.index(memory) for known, memory in zip(kept, memories))
        table.append((numbers, good, tuple(follow)))
    return table


class TestIsTable(unittest.TestCase):
    def test_tables(self):
        self.assertIs(is_table(HOUSE, SMALL), True)
        self.assertIs(is_table(HOUSE, grid(3, 5)), True)
        self.assertIs(is_table(HOUSE, [((0, 0), True, (0, 0, 0))]), True)
        self.assertIs(is_table(HOUSE, [((7, BIG), False, (0, 0, 0))]), True)
        self.assertIs(is_table(WIDE, [((0, 0, 0, 0), False, (0,) * 6)]), True)

    def test_memories_need_not_be_numbered_in_order(self):
        table = [((9, BIG), True, (1, 0, 1)), ((4, BIG), False, (0, 1, 1))]
        self.assertIs(is_table(HOUSE, table), True)

    def test_entries_that_no_row_leads_to(self):
        self.assertIs(is_table(HOUSE, [((0, 0), True, (0, 0, 0)), ((1, 0), True, (0, 1, 0))]), True)
        self.assertIs(is_table(HOUSE, [((0, 0), True, (0, 0, 0)), ((1, 0), True, (1, 0, 0))]), False)

    def test_one_entry_and_six_hundred(self):
        for count in [1, 2, 599, 600]:
            self.assertIs(is_table(HOUSE, circle(count)), True)
        self.assertIs(is_table(HOUSE, circle(601)), False)
        self.assertIs(is_table(HOUSE, circle(700)), False)
        self.assertIs(is_table(HOUSE, grid(20, 30)), True)
        self.assertIs(is_table(HOUSE, grid(30, 21)), False)

    def test_no_tables(self):
        for thing in NO_TABLES + ODD_THINGS + HOUSES:
            self.assertIs(is_table(HOUSE, thing), False, thing)

    def test_letters_of_several_hands(self):
        # Each letter's hands alone are read and changed: a of 0, b of 0 and 1, c of 1 and 2, d of 0 and 2, e of 2.
        entries = list(itertools.product([0, 1], repeat=3))
        turned = {"a": [0], "b": [0, 1], "c": [1, 2], "d": [0, 2], "e": [2]}
        table = []
        for entry in entries:
            follows = []
            for hands in turned.values():
                follows.append(entries.index(tuple(1 - one if hand in hands else one for hand, one in enumerate(entry))))
            table.append((entry, sum(entry) == 2, tuple(follows)))
        self.assertIs(is_table(THREE, table), True)
        for number in range(8):
            for letter in range(5):
                for follow in range(8):
                    memories, good, follows = table[number]
                    other = follows[:letter] + (follow,) + follows[letter + 1:]
                    changed = with_entry(table, number, (memories, good, other))
                    self.assertIs(is_table(THREE, changed), follow == follows[letter])

    def test_a_table_of_another_house(self):
        self.assertIs(is_table(TWO_LETTERS, SMALL), False)
        self.assertIs(is_table(THREE, SMALL), False)
        self.assertIs(is_table((3, HOUSE[1]), SMALL), False)
        self.assertIs(is_table((2, [("a", [0]), ("b", [1]), ("c", [1])]), SMALL), True)
        self.assertIs(is_table((2, [("a", [1]), ("b", [0]), ("c", [1])]), SMALL), False)

    def test_no_house_comes_first(self):
        for house in NO_HOUSES + ODD_THINGS:
            for thing in [SMALL, None]:
                with self.assertRaises(NoHouse, msg=repr(house)):
                    is_table(house, thing)

    def test_what_is_handed_in_stays(self):
        house = copy.deepcopy(HOUSE)
        for thing in NO_TABLES + [SMALL]:
            kept = copy.deepcopy(thing)
            is_table(house, thing)
            self.assertEqual(repr(thing), repr(kept))
        self.assertEqual(house, HOUSE)

    def test_a_changed_list_is_looked_at_anew(self):
        table = list(SMALL)
        self.assertIs(is_table(HOUSE, table), True)
        table.append(table[0])
        self.assertIs(is_table(HOUSE, table), False)
        table.pop()
        self.assertIs(is_table(HOUSE, table), True)


class TestRowApart(unittest.TestCase):
    def test_a_table_and_its_own_machine(self):
        for table in [SMALL, circle(1), circle(7), grid(3, 4), grid(5, 6)]:
            self.assertIsNone(row_apart(HOUSE, machine_of_table(table), table))
            self.assertIsNone(row_apart(HOUSE, least(HOUSE, machine_of_table(table)), table))

    def test_one_good_room_more_or_less(self):
        for table in [SMALL, circle(5), grid(3, 4)]:
            moves, good = machine_of_table(table)
            for room in range(len(moves)):
                other = (moves, sorted(set(good) ^ {room}))
                told = row_apart(HOUSE, other, table)
                self.assertEqual(told, first_row_apart(HOUSE, other, table, 5))
                self.assertEqual(walk(HOUSE, other, 0, told), room)

    def test_let_no_row_by(self):
        dull = [(memories, False, follows) for memories, good, follows in grid(3, 4)]
        self.assertIsNone(row_apart(HOUSE, (BOTH_ODD[0], []), dull))
        self.assertEqual(row_apart(HOUSE, BOTH_ODD, dull), "ab")
        self.assertEqual(row_apart(HOUSE, (BOTH_ODD[0], []), SMALL), "ab")
        self.assertEqual(row_apart(HOUSE, ([[0, 0, 0]], [0]), dull), "")

    def test_of_several_shortest_rows_the_first(self):
        # "ab" and "ba" both lead to the one good entry.
        self.assertEqual(row_apart(HOUSE, ([[0, 0, 0]], []), SMALL), "ab")
        machine = ([[2, 1, 1], [1, 1, 1], [2, 2, 2]], [1])
        self.assertEqual(row_apart(HOUSE, machine, [((0, 0), False, (0, 0, 0))]), "b")
        # A shorter one is ahead of an earlier one.
        machine = ([[1, 0, 3], [2, 2, 2], [3, 3, 3], [3, 3, 3]], [3])
        self.assertEqual(row_apart(HOUSE, machine, [((0, 0), False, (0, 0, 0))]), "c")

    def test_long_rows(self):
        self.assertEqual(row_apart(HOUSE, ([[0, 0, 0]], [0]), with_good(circle(600), range(599))), "a" * 599)
        moves = [[(room + 1) % 29, room, room] for room in range(29)]
        # The two circles are apart only where both are nearly through.
        table = with_good(circle(598), range(0, 598, 2))
        self.assertEqual(row_apart(HOUSE, (moves, list(range(0, 29, 2))), table), "a" * 29)

    def test_many_pairs_within_a_short_time(self):
        begun = time.process_time()
        table = with_good(circle(599), [])
        moves = [[(room + 1) % 30, room, room] for room in range(30)]
        self.assertIsNone(row_apart(HOUSE, (moves, []), table))
        self.assertLess(time.process_time() - begun, 10)

    def test_against_all_rows_in_order(self):
        for machine in random_machines(HOUSE, 60, 4):
            for table in [SMALL, circle(3), grid(2, 3)]:
                due = first_row_apart(HOUSE, machine, table, 6)
                self.assertEqual(row_apart(HOUSE, machine, table), due, (machine, table))

    def test_no_table(self):
        for thing in NO_TABLES + ODD_THINGS:
            with self.assertRaises(NoTable, msg=repr(thing)):
                row_apart(HOUSE, BOTH_ODD, thing)

    def test_no_house_then_no_machine_then_no_table(self):
        for house in NO_HOUSES + ODD_THINGS:
            for machine, table in [(BOTH_ODD, SMALL), (None, None)]:
                with self.assertRaises(NoHouse, msg=repr(house)):
                    row_apart(house, machine, table)
        for machine in NO_MACHINES + ODD_THINGS:
            for table in [SMALL, None]:
                with self.assertRaises(NoMachine, msg=repr(machine)):
                    row_apart(HOUSE, machine, table)

    def test_a_torn_machine_is_not_refused(self):
        self.assertEqual(row_apart(HOUSE, A_AHEAD, SMALL), "ba")
        self.assertEqual(row_apart(HOUSE, A_AHEAD, [((0, 0), False, (0, 0, 0))]), "ab")

    def test_what_is_handed_in_stays(self):
        house, machine, table = copy.deepcopy((HOUSE, BOTH_ODD, SMALL))
        row_apart(house, machine, table)
        self.assertEqual((house, machine, table), (HOUSE, BOTH_ODD, SMALL))

    def test_a_changed_table_answers_anew(self):
        table, machine = copy.deepcopy((SMALL, machine_of_table(SMALL)))
        self.assertIsNone(row_apart(HOUSE, machine, table))
        table[2] = (table[2][0], True, table[2][2])
        self.assertEqual(row_apart(HOUSE, machine, table), "b")
        machine[1].clear()
        self.assertEqual(row_apart(HOUSE, machine, table), "b")
        machine[1].append(0)
        self.assertEqual(row_apart(HOUSE, machine, table), "")


def with_good(table, numbers):
    return [(memories, number in numbers, follows) for number, (memories, good, follows) in enumerate(table)]


class TestTableOf(unittest.TestCase):
    def check(self, house, machine):
        table = table_of(house, machine)
        self.assertIs(is_table(house, table), True, (house, machine))
        self.assertIsNone(row_apart(house, machine, table), (house, machine))
        return table

    def test_one_letter(self):
        # No deeds, then the names 0 and 1 in turn.
        due = [((0, 0), True, (1,)), ((0, 1), True, (2,)), ((0, 2), True, (1,))]
        self.assertEqual(table_of(ONE_LETTER, ([[0]], [0])), due)
        table = self.check(ONE_LETTER, ([[1], [2], [0]], [2]))
        self.assertEqual([entry[1] for entry in table], [False, False, True, False, False, True, False])
        self.assertEqual([entry[0] for entry in table], [(0, i) for i in range(7)])

    def test_two_letters_of_unlike_hands(self):
        table = self.check(TWO_LETTERS, ([[0, 0]], [0]))
        self.assertEqual(table, [
            ((0, 0), True, (1, 2)), ((1, 0), True, (3, 4)), ((0, 1), True, (4, 5)), ((2, 0), True, (1, 6)),
            ((1, 1), True, (6, 7)), ((0, 2), True, (7, 2)), ((2, 1), True, (4, 8)), ((1, 2), True, (8, 4)),
            ((2, 2), True, (7, 6)),
        ])

    def test_against_the_hands(self):
        chance = random.Random(31)
        sizes = []
        for i in range(60):
            own = [chance.choice([[0], [1], [0, 1]]) for letter in "abcd"]
            house = (2, list(zip("cgmx", own))[:chance.randint(1, 4)])
            machine = chance.choice([hands_turning(chance, house, [2, 2]), put_together(chance, house, 4)])
            if len(house[1]) == 4:
                machine = (machine[0], chance.choice([[], machine[1]]))
            try:
                table = self.check(house, machine)
            except TooMany:
                continue
            sizes.append(len(table))
            if len(table) < 120:
                self.assertEqual(table, table_met(house, machine), (house, machine))
        self.assertGreater(len(sizes), 40)
        self.assertGreater(len(set(sizes)), 10)

    def test_at_most_three_letters_and_two_rooms(self):
        chance = random.Random(32)
        for own in itertools.product([[0], [1], [0, 1]], repeat=3):
            house = (2, list(zip("abc", own)))
            for machine in chance.sample(list(all_machines(house, 2)), 20):
                if judged(house, machine) is None:
                    self.assertLessEqual(len(self.check(house, machine)), 300)

    def test_at_most_two_letters_and_two_rooms(self):
        for own in itertools.product([[0], [1], [0, 1]], repeat=2):
            house = (2, list(zip("ab", own)))
            for machine in all_machines(house, 2):
                if judged(house, machine) is None:
                    self.assertEqual(self.check(house, machine), table_met(house, machine))

    def test_a_machine_that_is_not_least(self):
        for turned, small, double in [untorn_machines(TWO_LETTERS, 33)[:3], untorn_machines(HOUSE, 34)[:3]]:
            house = HOUSE if len(small[0][0]) == 3 else TWO_LETTERS
            self.assertEqual(table_of(house, small), table_of(house, double))

    def test_just_six_hundred_entries(self):
        for house, machine in [JUST_600, ((2, [("a", [0]), ("b", [0, 1])]),
                                          ([[1, 2], [2, 3], [4, 0], [0, 3], [1, 3]], [0, 1, 3]))]:
            self.assertEqual(len(self.check(house, machine)), 600)

    def test_more_than_six_hundred_entries(self):
        house, machine = JUST_601
        self.assertIsNone(judged(house, machine))
        with self.assertRaises(TooMany):
            table_of(house, machine)
        self.assertEqual(len(table_met_sizes(house, machine)), 601)

    def test_far_more_entries_within_a_short_time(self):
        begun = time.process_time()
        chance = random.Random(35)
        for own in [[[0], [1], [0, 1], [0, 1]], [[0], [0], [1], [1]], [[0, 1]] * 4]:
            house = (2, list(zip("abcd", own)))
            for i in range(4):
                with self.assertRaises(TooMany):
                    table_of(house, least_large(chance, house))
        self.assertLess(time.process_time() - begun, 20)

    def test_other_houses(self):
        six = [("a", [0]), ("b", [0]), ("c", [1]), ("d", [0]), ("e", [0]), ("f", [1])]
        for house in [ALL_FREE, GOSSIP, THREE, RING, WIDE, (3, [("a", [0])]), (4, [("a", [0])]), (2, six), (2, six[:5])]:
            for good in [[], [0]]:
                with self.assertRaises(TooMany, msg=house):
                    table_of(house, ([[0] * len(house[1])], good))
        self.assertEqual(len(self.check((2, six[:4]), ([[0] * 4], [0]))), len(table_met((2, six[:4]), ([[0] * 4], []))))

    def test_torn_is_ahead_of_too_many(self):
        free = (3, [("a", [0]), ("b", [1]), ("c", [2])])
        five = (2, [("a", [0]), ("b", [1]), ("c", [0, 1]), ("d", [0]), ("e", [0])])
        moves = [follows + [2, 2] for follows in A_AHEAD[0]]
        for house, machine in TORN + [(free, A_AHEAD), (five, (moves, [3]))]:
            with self.assertRaises(Torn) as caught:
                table_of(house, machine)
            self.assertEqual((caught.exception.row, caught.exception.place), judged(house, machine))

    def test_no_house_and_no_machine_are_ahead(self):
        for house in NO_HOUSES + ODD_THINGS:
            for machine in [BOTH_ODD, A_AHEAD, None]:
                with self.assertRaises(NoHouse, msg=repr(house)):
                    table_of(house, machine)
        for machine in NO_MACHINES + ODD_THINGS:
            with self.assertRaises(NoMachine, msg=repr(machine)):
                table_of(HOUSE, machine)
        with self.assertRaises(NoMachine):
            table_of(WIDE, A_AHEAD)

    def test_what_is_handed_in_stays(self):
        house, machine = copy.deepcopy((TWO_LETTERS, ([[1, 0], [0, 1]], [1])))
        table_of(house, machine)
        self.assertEqual((house, machine), (TWO_LETTERS, ([[1, 0], [0, 1]], [1])))

    def test_the_told_list_is_new_and_the_askers_own(self):
        table = table_of(TWO_LETTERS, ([[1, 0], [0, 1]], [1]))
        due = copy.deepcopy(table)
        self.assertEqual(len(lists_in(table)), 1)
        table.clear()
        self.assertEqual(table_of(TWO_LETTERS, ([[1, 0], [0, 1]], [1])), due)

    def test_a_changed_machine_answers_anew(self):
        machine = ([[1, 0], [0, 1]], [1])
        table = table_of(TWO_LETTERS, machine)
        kept = copy.deepcopy(table)
        machine[1].append(0)
        machine[1].reverse()
        self.assertEqual(len(table_of(TWO_LETTERS, machine)), 9)
        self.assertEqual(table, kept)


def least_large(chance, house):
    """Untorn, of more than twenty rooms in its least machine."""
    while True:
        machine = hands_turning(chance, house, [5, 6])
        if len(least(house, machine)[0]) > 20:
            return machine


def table_met_sizes(house, machine):
    """How many memories there are together, by going from memories to memories with Hands set to them."""
    hands = Hands(house, machine)
    met = {tuple(hands.memories): ""}
    for memories in met_growing(met):
        for letter, own in house[1]:
            hands.memories = list(memories)
            hands.do(letter)
            met.setdefault(tuple(hands.memories), met[memories] + letter)
    return met


def met_growing(met):
    done = 0
    while done < len(met):
        yield list(met)[done]
        done += 1
