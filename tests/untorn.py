"""Machines whose answer hangs on no order of free letters, made in several ways; and some that are torn."""

import itertools
import random

from handsapart.machines import least
from tests.samples import HOUSE, free, letters


def hands_turning(chance, house, states):
    """Each hand has states of its own; a letter turns those of its hands, by these alone."""
    every = list(itertools.product(*[range(count) for count in states]))
    moves = [[] for room in every]
    for letter, hands in house[1]:
        turns = {}
        for read in itertools.product(*[range(states[hand]) for hand in hands]):
            turns[read] = tuple(chance.randrange(states[hand]) for hand in hands)
        for number, room in enumerate(every):
            turned = dict(zip(hands, turns[tuple(room[hand] for hand in hands)]))
            moves[number].append(every.index(tuple(turned.get(hand, room[hand]) for hand in range(house[0]))))
    good = [room for room in range(len(every)) if chance.randrange(3) == 0]
    return (moves, good)


def put_together(chance, house, rooms):
    """Rooms of a drawn machine, put together until the squares of free letters commute."""
    moves = [[chance.choice([room, chance.randrange(rooms)]) for letter in house[1]] for room in range(rooms)]
    names = list(range(rooms))

    def join(one, other):
        one, other = sorted([names[one], names[other]])
        for room in range(rooms):
            if names[room] == other:
                names[room] = one

    pairs = [(i, j) for i, j in itertools.combinations(range(len(house[1])), 2)
             if free(house, house[1][i][0], house[1][j][0])]
    before = None
    while before != names:
        before = list(names)
        for room in range(rooms):
            for i, j in pairs:
                join(moves[moves[room][i]][j], moves[moves[room][j]][i])
            for i in range(len(house[1])):
                join(moves[room][i], moves[names[room]][i])
    kept = sorted(set(names))
    told = [[kept.index(names[follow]) for follow in moves[room]] for room in kept]
    return (told, [i for i in range(len(kept)) if chance.randrange(2)])


def doubled(chance, machine):
    """Two rooms for each one, and moves to either."""
    count = len(machine[0])
    moves = [[follow + count * chance.randrange(2) for follow in machine[0][room % count]] for room in range(2 * count)]
    return (moves, machine[1] + [room + count for room in machine[1]])


def states_for(house):
    return {2: [5, 6], 3: [3, 2, 4], 4: [2, 3, 2, 2]}[house[0]]


def untorn_machines(house, seed):
    """Some of each kind, the same ones in each run."""
    chance = random.Random(seed)
    turned = hands_turning(chance, house, states_for(house))
    small = hands_turning(chance, house, [2, 2, 2, 1][:house[0]])
    machines = [turned, small, doubled(chance, small)]
    together = [put_together(chance, house, chance.choice([4, 6, 12])) for i in range(40)]
    machines.append(max(together, key=lambda machine: len(least(house, machine)[0])))
    every = list(range(len(turned[0])))
    width = len(letters(house))
    machines += [(turned[0], []), (turned[0], every), ([[0] * width], [0]), ([[0] * width], [])]
    return machines


# Room 2 * i + j: i letters a and j letters b, each modulo 2; c leads to room 0.
BOTH_ODD = ([[2, 1, 0], [3, 0, 0], [0, 3, 0], [1, 2, 0]], [3])
# Lets "ab" by, and not "ba".
A_AHEAD = ([[1, 2, 2], [2, 3, 2], [2, 2, 2], [2, 2, 2]], [3])
# Torn at "cab": the order of a and b behind the first c.
LATE = ([[0, 0, 1], [2, 3, 4], [4, 5, 4], [4, 4, 4], [4, 4, 4], [4, 4, 4]], [5])
TORN = [(HOUSE, A_AHEAD), (HOUSE, LATE)]
