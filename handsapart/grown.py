"""Machines grown from a first room by what each letter makes of a room."""

from handsapart.houses import letters_of
from handsapart.machines import least_of
from handsapart.orders import none_seen, ways_on
from handsapart.seen import seen_by_all


def least_grown(house, first, follow, is_good):
    # Rooms may be anything: follow tells, of a room and the number of a letter, where it leads.
    rooms = [first]
    numbers = {first: 0}
    moves = []
    while len(moves) < len(rooms):
        room = rooms[len(moves)]
        behind = [follow(room, number) for number in range(len(house[1]))]
        for other in behind:
            if other not in numbers:
                numbers[other] = len(rooms)
                rooms.append(other)
        moves.append([numbers[other] for other in behind])
    return least_of((moves, [number for number, room in enumerate(rooms) if is_good(room)]))


def machine_of_others(machine):
    return (machine[0], [room for room in range(len(machine[0])) if room not in machine[1]])


def machine_of_either(house, one, other):
    return machine_of_pairs(house, one, other, lambda pair: pair[0] in one[1] or pair[1] in other[1])


def machine_of_both(house, one, other):
    return machine_of_pairs(house, one, other, lambda pair: pair[0] in one[1] and pair[1] in other[1])


def machine_of_pairs(house, one, other, is_good):
    return least_grown(
        house, (0, 0), lambda pair, number: (one[0][pair[0]][number], other[0][pair[1]][number]), is_good,
    )


def machine_of_row(house, row):
    # A room is how far each hand is in what it sees of the row, or None where no letters lead to the row any more.
    views = seen_by_all(house, row)
    ends = tuple([len(view) for view in views])
    return least_grown(
        house, none_seen(house),
        lambda counts, number: counts_behind(house, views, counts, number),
        lambda counts: counts == ends,
    )


def counts_behind(house, views, counts, number):
    if counts is None:
        return None
    return dict(ways_on(house, views, counts)).get(letters_of(house)[number])


def machine_of_repeats(house, row):
    # Of a row of at most one part: hands that share a letter of it are less than two repeats apart, so with the repeats
    # that all have seen taken off, none gets beyond as many repeats as the row has letters.
    views = seen_by_all(house, row * (len(row) + 1))
    sizes = [len(view) for view in seen_by_all(house, row)]
    none = none_seen(house)
    return least_grown(
        house, none,
        lambda counts, number: without_repeats(sizes, counts_behind(house, views, counts, number)),
        lambda counts: counts == none,
    )


def without_repeats(sizes, counts):
    if counts is None:
        return None
    repeats = min([count // size for count, size in zip(counts, sizes) if size > 0])
    return tuple([count - repeats * size for count, size in zip(counts, sizes)])
