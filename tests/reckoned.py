"""News, names and changes by the deeds of a row and their pasts, gone through one by one."""

from tests.samples import chained, walk


class Reckoned:
    """News by the deeds of a row and their pasts, as they stand in the row."""

    def __init__(self, house, row):
        self.hands = range(house[0])
        self.own = dict(house[1])
        self.row = row
        self.pasts = chained(house, row)
        self.newest = [[self.newest_in(past, hand) for hand in self.hands] for past in self.pasts]
        # What a hand did last among the first deeds, however many: all that it knows lies below it.
        self.last = [[None] * house[0]]
        for place, letter in enumerate(row):
            self.last.append([place if hand in self.own[letter] else self.last[-1][hand] for hand in self.hands])
        self.names = []
        self.news_of_deeds = {None: self.news_below(None)}
        for place, letter in enumerate(row):
            self.names.append((letter, self.least_number(place, letter)))
            self.news_of_deeds[place] = self.news_below(place)

    def newest_in(self, deeds, hand):
        return max([deed for deed in deeds if hand in self.own[self.row[deed]]], default=None)

    def below(self, deed):
        return set() if deed is None else self.pasts[deed]

    def by(self, deed, hand):
        return None if deed is None else self.newest[deed][hand]

    def first(self, hand, size, q):
        return self.by(self.last[size][hand], q)

    def second(self, hand, size, q, r):
        return self.by(self.first(hand, size, q), r)

    def news_below(self, deed):
        """Of a hand that did this deed last."""
        thirds = []
        for q in self.hands:
            seconds = []
            for r in self.hands:
                second = self.by(self.by(deed, q), r)
                seconds.append(tuple(self.named(self.by(second, s)) for s in self.hands))
            thirds.append(tuple(seconds))
        return tuple(thirds)

    def named(self, deed):
        return None if deed is None else self.names[deed]

    def least_number(self, size, letter):
        used = set()
        for hand in self.own[letter]:
            for seconds in self.news(hand, size):
                for firsts in seconds:
                    used |= set(firsts)
        number = 0
        while (letter, number) in used:
            number += 1
        return number

    def news(self, hand, size):
        return self.news_of_deeds[self.last[size][hand]]

    def in_use(self, size):
        deeds = {self.second(p, size, q, r) for p in self.hands for q in self.hands for r in self.hands}
        deeds |= {self.first(p, size, q) for p in self.hands for q in self.hands}
        return deeds - {None}

    def change(self, house, machine, hand, size, number):
        """Of the rooms of this machine, by the deeds that the hand knows beyond the hands of this set."""
        deeds = self.below(self.last[size][hand])
        for q in self.hands:
            if number & 2 ** q:
                deeds = deeds - self.below(self.first(hand, size, q))
        row = "".join(self.row[deed] for deed in sorted(deeds))
        return tuple(walk(house, machine, room, row) for room in range(len(machine[0])))

    def memory(self, house, machine, hand, size):
        changes = tuple(self.change(house, machine, hand, size, number) for number in range(2 ** house[0]))
        return (self.news(hand, size), changes)
