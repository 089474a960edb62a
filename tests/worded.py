"""What the words of a set say, heap by heap; and the machine of a set by going through all ways there are."""

from handsapart.machines import least
from handsapart.rows import least_row
from tests.samples import free, is_first_of_its_heap, letters, looks_alike, rows_up_to


def cuts(house, row):
    """All pairs of rows into which a past cuts the row: a letter stands ahead where it is free of all behind."""
    told = [("", "")]
    for letter in row:
        ahead = [(one + letter, other) for one, other in told if all(free(house, letter, sign) for sign in other)]
        told = ahead + [(one, other + letter) for one, other in told]
    return told


class Worded:
    """Whether the heap of a row is in a set, as its words say."""

    def __init__(self, house):
        self.house = house
        self.known = {}
        self.cuts = {}
        self.heaps = {}

    def first_rows(self, length):
        """Of each heap of at most so many letters the first row."""
        if length not in self.heaps:
            rows = rows_up_to(self.house, length)
            self.heaps[length] = [row for row in rows if is_first_of_its_heap(self.house, row)]
        return self.heaps[length]

    def has(self, one, row):
        """Of the first row of a heap."""
        if (one, row) not in self.known:
            self.known[(one, row)] = self.reckoned(one, row)
        return self.known[(one, row)]

    def reckoned(self, one, row):
        word, first = one[:2]
        if word == "row":
            return looks_alike(self.house, first, row)
        if word == "again":
            return any(looks_alike(self.house, first * times, row) for times in range(len(row) + 1))
        if word == "not":
            return not self.has(first, row)
        if word == "either":
            return self.has(first, row) or self.has(one[2], row)
        if word == "both":
            return self.has(first, row) and self.has(one[2], row)
        if row not in self.cuts:
            told = cuts(self.house, row)
            self.cuts[row] = [(least_row(self.house, ahead), least_row(self.house, behind)) for ahead, behind in told]
        return any(self.has(first, ahead) and self.has(one[2], behind) for ahead, behind in self.cuts[row])


def machine_met(house, start, follow, is_good):
    rooms, moves = [start], []
    numbers = {start: 0}
    for room in rooms:
        moves.append([])
        for letter in letters(house):
            behind = follow(room, letter)
            if behind not in numbers:
                numbers[behind] = len(rooms)
                rooms.append(behind)
            moves[-1].append(numbers[behind])
        if len(rooms) > 4000:
            return None
    return (moves, [number for number, room in enumerate(rooms) if is_good(room)])


def all_ways(house, one, other):
    """Of two machines: the machine of rows of the one with rows of the other behind them; None where it is large."""
    own = dict(house[1])
    numbers = {letter: number for number, letter in enumerate(letters(house))}

    def follow(ways, letter):
        behind = set()
        for first, second, busy in ways:
            behind.add((first, other[0][second][numbers[letter]], busy | frozenset(own[letter])))
            if not busy & set(own[letter]):
                behind.add((one[0][first][numbers[letter]], second, busy))
        return frozenset(behind)

    def is_good(ways):
        return any(first in one[1] and second in other[1] for first, second, busy in ways)

    met = machine_met(house, frozenset([(0, 0, frozenset())]), follow, is_good)
    return None if met is None else merged(met)


def merged(machine):
    """Rooms that do the same put together, as least wants at most thirty rooms."""
    moves, good = machine
    kinds = [room in good for room in range(len(moves))]
    count = 0
    while len(set(kinds)) > count:
        count = len(set(kinds))
        looks = [(kinds[room], tuple(kinds[follow] for follow in moves[room])) for room in range(len(moves))]
        numbers = {look: number for number, look in enumerate(dict.fromkeys(looks))}
        kinds = [numbers[look] for look in looks]
    told = [[kinds[follow] for follow in moves[kinds.index(kind)]] for kind in range(count)]
    return (told, sorted({kinds[room] for room in good}))


def least_if_small(house, machine):
    return least(house, machine) if len(machine[0]) <= 30 else None
