"""Orders: the rows of a heap, and its pasts, counted without going through the rows."""

from handsapart.errors import TooMany
from handsapart.houses import need_row
from handsapart.seen import seen_by_all

MOST_ORDERS = 500


def orders_counted(house, row):
    need_row(house, row)
    return sum(pasts_by_size(house, row)[-1].values())


def pasts_counted(house, row):
    need_row(house, row)
    return sum([len(pasts) for pasts in pasts_by_size(house, row)])


def pasts_by_size(house, row):
    # Hands are few, so the pasts are few even where the rows are not: a past is how much each hand has seen of it.
    views = seen_by_all(house, row)
    sizes = [{none_seen(house): 1}]
    for size in range(len(row)):
        sizes.append(pasts_grown(house, views, sizes[size]))
    return sizes


def none_seen(house):
    return tuple([0] * house[0])


def pasts_grown(house, views, pasts):
    # For each past by one deed larger, in how many orders its deeds can be done.
    grown = {}
    for counts, orders_so_far in pasts.items():
        for letter, larger in ways_on(house, views, counts):
            grown[larger] = grown.get(larger, 0) + orders_so_far
    return grown


def ways_on(house, views, counts):
    # A letter can be done next where each of its hands sees it next.
    ways = []
    for letter, hands in house[1]:
        if all([views[hand][counts[hand]:counts[hand] + 1] == letter for hand in hands]):
            larger = tuple([count + int(hand in hands) for hand, count in enumerate(counts)])
            ways.append((letter, larger))
    return ways


def orders(house, row):
    if orders_counted(house, row) > MOST_ORDERS:
        raise TooMany("the heap has too many rows to tell them all")
    views = seen_by_all(house, row)
    begun = [("", none_seen(house))]
    # Letters are gone through in order, so the rows stay sorted.
    for size in range(len(row)):
        begun = all_longer(house, views, begun)
    return [text for text, counts in begun]


def all_longer(house, views, begun):
    longer = []
    for text, counts in begun:
        for letter, larger in ways_on(house, views, counts):
            longer.append((text + letter, larger))
    return longer
