"""Houses, machines and things of other kinds that several tests use."""

import itertools
import random

HOUSE = (2, [("a", [0]), ("b", [1]), ("c", [0, 1])])
ONE_LETTER = (2, [("q", [1])])
TWO_LETTERS = (2, [("b", [0]), ("y", [1])])
WIDE = (4, [("a", [0]), ("c", [1, 2]), ("d", [3]), ("m", [0, 1, 2, 3]), ("y", [2]), ("z", [0, 3])])
HOUSES = [HOUSE, ONE_LETTER, TWO_LETTERS, WIDE]

BIG = 10 ** 39

# Things that are neither a house, nor a row, nor a machine, nor a room of any.
ODD_THINGS = [
    None, True, False, -1, BIG, -BIG, "A", "1", "-", " ", "a b", "hands 2", "~", [], (), [[]], ((),), [()], ([],),
    [None], (None,), (None, None), (True, False), ([], []), [[], []], (2,), [2], (0, 0), ("a", "b"), ["a"], ("a",),
    [[[[[[[[[[[[[[[[]]]]]]]]]]]]]]]], ((((((((((((((((),),),),),),),),),),),),),),),), [0] * 1150, (0,) * 1150,
]


def nest(depth):
    thing = 0
    for level in range(depth):
        thing = [thing] if level % 2 else (thing, thing)
    return thing


def letters(house):
    return [entry[0] for entry in house[1]]


def rows_up_to(house, length):
    """All rows of at most so many letters, shorter ones first, of one length in order."""
    for count in range(length + 1):
        for row in itertools.product(letters(house), repeat=count):
            yield "".join(row)


def walk(house, machine, room, row):
    for letter in row:
        room = machine[0][room][letters(house).index(letter)]
    return room


def random_machine(chance, house, rooms):
    moves = [[chance.randrange(rooms) for letter in house[1]] for room in range(rooms)]
    good = [room for room in range(rooms) if chance.randrange(3) == 0]
    return (moves, good)


def random_machines(house, count, most):
    """So many machines, the same ones in each run."""
    chance = random.Random(7)
    return [random_machine(chance, house, 1 + i % most) for i in range(count)]


def all_machines(house, rooms):
    width = len(house[1])
    for flat in itertools.product(range(rooms), repeat=rooms * width):
        moves = [list(flat[room * width:(room + 1) * width]) for room in range(rooms)]
        for marks in itertools.product([0, 1], repeat=rooms):
            yield (moves, [room for room in range(rooms) if marks[room]])


def renumbered(machine, order):
    """The same machine, room i called order[i]."""
    moves = [None] * len(order)
    for room, follows in enumerate(machine[0]):
        moves[order[room]] = [order[follow] for follow in follows]
    return (moves, sorted(order[room] for room in machine[1]))


def lists_in(thing):
    """All lists within a thing, itself too."""
    found = [thing] if isinstance(thing, list) else []
    if isinstance(thing, (list, tuple)):
        for part in thing:
            found += lists_in(part)
    return found
