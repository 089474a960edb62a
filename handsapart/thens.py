"""Sets one behind the other: the least machine of the rows of the one with rows of the other behind them."""

from handsapart.errors import TooMany
from handsapart.machines import MOST_ROOMS, least_of


def machine_of_then(house, one, other):
    # All ways in which rows stand together may be far too many to go through, even where the least machine is small.
    # So rows are taken to lead to one room as long as no test tells them apart, and tests are found until that is so.
    ways = ways_met(house, one, other)
    trial = Trial(ways[0], [ways[1]])
    found = trial.test_found()
    while found is not None:
        trial = Trial(ways[0], trial.tests + [found])
        found = trial.test_found()
    return least_of(trial.told_machine())


def ways_met(house, one, other):
    # Told are, for each way and each letter, the ways behind it, and the good ways; both as masks.
    ways = [(0, 0, 0)]
    numbers = {(0, 0, 0): 0}
    follows = []
    while len(follows) < len(ways):
        masks = []
        parted = ways[len(follows)]
        for behind in ways_behind(house, one, other, parted):
            for way in behind:
                if way not in numbers:
                    numbers[way] = len(ways)
                    ways.append(way)
            masks.append(mask_of([numbers[way] for way in behind]))
        follows.append(masks)
    good = [number for number, way in enumerate(ways) if way[0] in one[1] and way[1] in other[1]]
    return (follows, mask_of(good))


def ways_behind(house, one, other, way):
    # A way to part what was read into two rows: the room to which each leads, and the hands of the second one's letters
    # as a mask. The next letter goes to the second row; or to the first one, where it is free of all in the second.
    told = []
    for number, entry in enumerate(house[1]):
        doers = mask_of(entry[1])
        behind = [(way[0], other[0][way[1]][number], way[2] | doers)]
        if way[2] & doers == 0:
            behind.append((one[0][way[0]][number], way[1], way[2]))
        told.append([step for step in behind if not is_lost(one, step[0]) and not is_lost(other, step[1])])
    return told


def is_lost(machine, room):
    # A least machine has at most one room from which no row leads to a good one, and it can't be left.
    return room not in machine[1] and all([follow == room for follow in machine[0][room]])


def mask_of(numbers):
    return sum([1 << number for number in numbers])


def numbers_of(mask):
    numbers = []
    while mask > 0:
        numbers.append(mask.bit_length() - 1)
        mask -= 1 << numbers[-1]
    return numbers


def is_met(mask, test):
    return mask & test != 0


class Trial:
    # A row leads to a mask, that of all ways to part it. A test is the mask of the ways from which a certain row leads
    # to good ones; masks that are alike to all tests are taken for one room, whose head is the first of them.

    def __init__(self, follows, tests):
        self.follows = follows
        self.tests = tests
        self.rooms = {}
        self.heads = []
        self.same = []
        self.behind = {}

    def test_found(self):
        # A test by which some mask is not what its head is; None where there is none, and all rooms are right.
        masks = [1]
        met = {1: True}
        place = 0
        while place < len(masks):
            mask = masks[place]
            place += 1
            head = self.heads[self.room_met(mask)]
            if mask != head and self.are_same(mask, head):
                continue
            self.same.append((mask, head))
            found = self.test_between(mask, head)
            if found is not None:
                return found
            for behind in self.masks_behind(mask):
                if behind not in met:
                    met[behind] = True
                    masks.append(behind)
        return None

    def room_met(self, mask):
        look = tuple([is_met(mask, test) for test in self.tests])
        if look not in self.rooms:
            if len(self.heads) == MOST_ROOMS:
                raise TooMany("the machine of the set has too many rooms")
            self.rooms[look] = len(self.heads)
            self.heads.append(mask)
        return self.rooms[look]

    def are_same(self, mask, head):
        return self.widened(mask) == self.widened(head)

    def widened(self, mask):
        # Ways together let by what any of them lets by. So a mask that has all of one of two that are the same does
        # what it does with all of the other, too; whatever is made the same by this needs no look of its own.
        before = None
        while mask != before:
            before = mask
            for one, other in self.same:
                if mask & one == one or mask & other == other:
                    mask = mask | one | other
        return mask

    def test_between(self, mask, head):
        for number, behind in enumerate(self.masks_behind(mask)):
            for test in self.tests:
                if is_met(behind, test) != is_met(self.masks_behind(head)[number], test):
                    return mask_of([way for way, masks in enumerate(self.follows) if is_met(masks[number], test)])
        return None

    def masks_behind(self, mask):
        if mask not in self.behind:
            told = [0] * len(self.follows[0])
            for way in numbers_of(mask):
                told = [known | more for known, more in zip(told, self.follows[way])]
            self.behind[mask] = told
        return self.behind[mask]

    def told_machine(self):
        moves = []
        for head in self.heads:
            moves.append([self.room_met(mask) for mask in self.masks_behind(head)])
        return (moves, [room for room, head in enumerate(self.heads) if is_met(head, self.tests[0])])
