"""Houses, machines and things of other kinds that several tests use."""

import itertools
import random

HOUSE = (2, [("a", [0]), ("b", [1]), ("c", [0, 1])])
ONE_LETTER = (2, [("q", [1])])
TWO_LETTERS = (2, [("b", [0]), ("y", [1])])
WIDE = (4, [("a", [0]), ("c", [1, 2]), ("d", [3]), ("m", [0, 1, 2, 3]), ("y", [2]), ("z", [0, 3])])
HOUSES = [HOUSE, ONE_LETTER, TWO_LETTERS, WIDE]
ALL_FREE = (4, [("a", [0]), ("b", [1]), ("c", [2]), ("d", [3])])
NONE_FREE = (3, [("a", [1]), ("b", [0, 1]), ("c", [1, 2]), ("d", [0, 1, 2])])
RING = (4, [("a", [0, 1]), ("b", [2, 3]), ("c", [1, 2]), ("d", [0, 3])])
IDLE_HAND = (4, [("f", [1]), ("g", [3]), ("h", [1, 3])])
MANY_FREE = (4, [("a", [0]), ("b", [1]), ("c", [2]), ("d", [3]), ("e", [0]), ("f", [1, 2])])
HEAP_HOUSES = HOUSES + [ALL_FREE, NONE_FREE, RING, IDLE_HAND, MANY_FREE]
GOSSIP = (4, [("a", [0, 1]), ("b", [1, 2]), ("c", [2, 3]), ("d", [0, 3]), ("e", [0, 2]), ("f", [1, 3])])
THREE = (3, [("a", [0]), ("b", [0, 1]), ("c", [1, 2]), ("d", [0, 2]), ("e", [2])])
LINE = (4, [("a", [0]), ("b", [0, 1]), ("c", [1, 2]), ("d", [2, 3]), ("e", [3])])
NEWS_HOUSES = HEAP_HOUSES + [GOSSIP, THREE, LINE]

BIG = 10 ** 39

# Things that are neither a house, nor a row, nor a machine, nor a room of any.
ODD_THINGS = [
    None, True, False, -1, BIG, -BIG, "A", "1", "-", " ", "a b", "hands 2", "~", [], (), [[]], ((),), [()], ([],),
    [None], (None,), (None, None), (True, False), ([], []), [[], []], (2,), [2], (0, 0), ("a", "b"), ["a"], ("a",),
    [[[[[[[[[[[[[[[[]]]]]]]]]]]]]]]], ((((((((((((((((),),),),),),),),),),),),),),),), [0] * 1150, (0,) * 1150,
]


def nest(depth):
    thing = 0
    for level in range(depth):
        thing = [thing] if level % 2 else (thing, thing)
    return thing


SIX = [("a", [0]), ("b", [0]), ("c", [0]), ("d", [0]), ("e", [0]), ("f", [0])]

NO_HOUSES = [
    # of another kind, or of another length
    [2, [("a", [0])]], (2,), (2, [("a", [0])], []), ([("a", [0])], 2), ([("a", [0])],), "hands 2\na 0",
    # hands
    (1, [("a", [0])]), (0, [("a", [0])]), (-2, [("a", [0])]), (5, [("a", [0])]), (BIG, [("a", [0])]),
    (True, [("a", [0])]), (False, [("a", [0])]), (None, [("a", [0])]), ("2", [("a", [0])]), ([2], [("a", [0])]),
    ((2,), [("a", [0])]), ([0, 1], [("a", [0])]),
    # letters as a whole
    (2, []), (2, ()), (2, (("a", [0]),)), (2, ("a", [0])), (2, None), (2, "a"), (2, 1), (2, SIX + [("g", [0])]),
    # an entry
    (2, [["a", [0]]]), (2, [("a",)]), (2, [("a", [0], [1])]), (2, [()]), (2, ["a"]), (2, [None]), (2, [0]),
    (2, [([0], "a")]), (2, ["ab"]), (2, [("a", [0]), None]), (2, [True]),
    # its letter
    (2, [("", [0])]), (2, [("ab", [0])]), (2, [("A", [0])]), (2, [("Z", [0])]), (2, [("0", [0])]), (2, [("-", [0])]),
    (2, [(" ", [0])]), (2, [("`", [0])]), (2, [("{", [0])]), (2, [("\n", [0])]), (2, [(0, [0])]), (2, [(None, [0])]),
    (2, [(True, [0])]), (2, [(["a"], [0])]), (2, [(("a",), [0])]), (2, [("a", [0]), ("B", [0])]),
    # the order of letters
    (2, [("b", [0]), ("a", [1])]), (2, [("a", [0]), ("a", [0])]), (2, [("a", [0]), ("a", [1])]),
    (2, [("a", [0]), ("c", [0]), ("b", [0])]), (2, [("a", [0]), ("b", [0]), ("b", [1])]),
    (2, [("a", [0]), ("c", [0]), ("a", [1])]),
    # its hands
    (2, [("a", [])]), (2, [("a", ())]), (2, [("a", (0,))]), (2, [("a", 0)]), (2, [("a", None)]), (2, [("a", "0")]),
    (2, [("a", [2])]), (2, [("a", [-1])]), (2, [("a", [0, 2])]), (3, [("a", [3])]), (4, [("a", [4])]),
    (4, [("a", [0, 1, 2, 3, 4])]), (2, [("a", [BIG])]), (2, [("a", [-BIG])]), (2, [("a", [1, 0])]),
    (2, [("a", [0, 0])]), (2, [("a", [0, 1, 1])]), (4, [("a", [0, 2, 1])]), (4, [("a", [0, 1, 2, 3, 3])]),
    (2, [("a", [True])]), (2, [("a", [False])]), (2, [("a", [0, True])]), (2, [("a", [False, 1])]),
    (2, [("a", [None])]), (2, [("a", ["0"])]), (2, [("a", [[0]])]), (2, [("a", [(0,)])]), (2, [("a", [0, None])]),
    (2, [("a", [0]), ("b", [])]), (2, [("a", [0]), ("b", [2])]),
]

NO_LETTERS = ["", "ab", "aa", "abc", "d", "A", "-", " ", "0", 0, 1, True, False, None, ["a"], ("a",), [], (), nest(16)]
NO_ROWS = [
    "d", "abd", "dab", "aAb", "a b", "a ", " ", "-", "ab\n", "\n", "0", 0, 1, BIG, True, False, None, [], (), ["a"],
    ("a",), ["a", "b"], ("a", "b"), [""], nest(16),
]
# None is a hand of a house of two.
NO_HANDS = [True, False, None, -1, -2, 2, 3, 4, BIG, -BIG, "0", "1", "", "a", [], (), [0], (0,), [0, 1], nest(16)]

# Of HOUSE.
NO_MACHINES = [
    # of another kind, or of another length
    [[[0, 0, 0]], [0]], ([[0, 0, 0]],), ([[0, 0, 0]], [0], []), ([0], [[0, 0, 0]]), "room 0 0 0\ngood 0",
    # moves as a whole
    ([], []), ([], [0]), ((), []), (([0, 0, 0],), [0]), (None, [0]), (1, [0]), ("0", [0]),
    ([[0, 0, 0]] * 31, []), ([[0, 0, 0]] * 31, [30]), ([[30, 0, 0]] + [[0, 0, 0]] * 30, []),
    # the moves of a room
    ([(0, 0, 0)], [0]), ([[0, 0]], [0]), ([[0, 0, 0, 0]], [0]), ([[]], [0]), ([0], [0]), ([None], [0]),
    (["000"], [0]), ([[0, 0, 0], [0, 0]], [0]), ([[0, 0, 0], (0, 0, 0)], [0]), ([[0, 0, 0], None], [0]),
    # a move
    ([[1, 0, 0]], [0]), ([[0, 0, 1]], [0]), ([[0, -1, 0]], [0]), ([[0, 0, 0], [0, 0, 2]], [0]), ([[0, BIG, 0]], [0]),
    ([[0, -BIG, 0]], [0]), ([[0, False, 0]], [0]), ([[0, 0, 0], [True, 0, 0]], [0]), ([[0, None, 0]], [0]),
    ([[0, "0", 0]], [0]), ([[0, [0], 0]], [0]), ([[0, (0,), 0]], [0]),
    # good rooms
    ([[0, 0, 0]], None), ([[0, 0, 0]], ()), ([[0, 0, 0]], (0,)), ([[0, 0, 0]], 0), ([[0, 0, 0]], "0"),
    ([[0, 0, 0]], True), ([[0, 0, 0]], [1]), ([[0, 0, 0]], [-1]), ([[0, 0, 0]], [BIG]), ([[0, 0, 0]], [0, 0]),
    ([[0, 0, 0]], [0, 1]), ([[0, 0, 0]], [False]), ([[0, 0, 0]] * 2, [True]), ([[0, 0, 0]] * 2, [0, True]),
    ([[0, 0, 0]] * 2, [1, 0]), ([[0, 0, 0]] * 2, [0, 1, 1]), ([[0, 0, 0]] * 2, [0, 1, 2]),
    ([[0, 0, 0]] * 3, [0, 2, 1]), ([[0, 0, 0]], [None]), ([[0, 0, 0]], ["0"]), ([[0, 0, 0]], [[0]]),
    ([[0, 0, 0]] * 30, [30]),
]


def letters(house):
    return [entry[0] for entry in house[1]]


def rows_up_to(house, length):
    """All rows of at most so many letters, shorter ones first, of one length in order."""
    for count in range(length + 1):
        for row in itertools.product(letters(house), repeat=count):
            yield "".join(row)


def free(house, one, other):
    hands = dict(house[1])
    return not set(hands[one]) & set(hands[other])


def exchanged(row, place):
    return row[:place] + row[place + 1] + row[place] + row[place + 2:]


def free_places(house, row):
    """The places at which two free neighbours begin."""
    return [place for place in range(len(row) - 1) if free(house, row[place], row[place + 1])]


def heap_with_distances(house, row):
    """All rows alike, each with the fewest exchanges that lead to it."""
    distances = {row: 0}
    rows = [row]
    for one in rows:
        for place in free_places(house, one):
            other = exchanged(one, place)
            if other not in distances:
                distances[other] = distances[one] + 1
                rows.append(other)
    return distances


def random_row(chance, house, length):
    return "".join(chance.choice(letters(house)) for place in range(length))


def random_rows(house, count, length):
    """So many rows of so many letters, the same ones in each run."""
    chance = random.Random(length)
    return [random_row(chance, house, length) for i in range(count)]


def shuffled(chance, house, row, times):
    """A row alike, by so many exchanges of free neighbours."""
    for i in range(times):
        places = free_places(house, row)
        if places:
            row = exchanged(row, chance.choice(places))
    return row


def looks_alike(house, one, other):
    """Alike, by looking at each two letters that are not free: their order says it all."""
    for first in letters(house):
        for second in letters(house):
            if not free(house, first, second):
                if [x for x in one if x in first + second] != [x for x in other if x in first + second]:
                    return False
    return sorted(one) == sorted(other)


def is_first_of_its_heap(house, row):
    """No letter can be brought ahead of a greater one: a row is its heap's first just then."""
    for i in range(len(row)):
        for j in range(i + 1, len(row)):
            if row[j] < row[i] and all(free(house, row[j], letter) for letter in row[i:j]):
                return False
    return True


def chained(house, row):
    """For each deed, as a set, all deeds from which a chain leads to it, and itself."""
    below = []
    for j in range(len(row)):
        below.append({j})
        for i in range(j):
            if not free(house, row[i], row[j]):
                below[j] |= below[i]
    return below


def walk(house, machine, room, row):
    for letter in row:
        room = machine[0][room][letters(house).index(letter)]
    return room


def random_machine(chance, house, rooms):
    moves = [[chance.randrange(rooms) for letter in house[1]] for room in range(rooms)]
    good = [room for room in range(rooms) if chance.randrange(3) == 0]
    return (moves, good)


def random_machines(house, count, most):
    """So many machines, the same ones in each run."""
    chance = random.Random(7)
    return [random_machine(chance, house, 1 + i % most) for i in range(count)]


def all_machines(house, rooms):
    width = len(house[1])
    for flat in itertools.product(range(rooms), repeat=rooms * width):
        moves = [list(flat[room * width:(room + 1) * width]) for room in range(rooms)]
        for marks in itertools.product([0, 1], repeat=rooms):
            yield (moves, [room for room in range(rooms) if marks[room]])


def renumbered(machine, order):
    """The same machine, room i called order[i]."""
    moves = [None] * len(order)
    for room, follows in enumerate(machine[0]):
        moves[order[room]] = [order[follow] for follow in follows]
    return (moves, sorted(order[room] for room in machine[1]))


def lists_in(thing):
    """All lists within a thing, itself too."""
    found = [thing] if isinstance(thing, list) else []
    if isinstance(thing, (list, tuple)):
        for part in thing:
            found += lists_in(part)
    return found
