"""What the hands see of a row: each its own letters, in order."""

from handsapart.houses import need_hand, need_row


def seen(house, row, hand):
    need_row(house, row)
    need_hand(house, hand)
    return seen_by(house, row, hand)


def seen_by(house, row, hand):
    letters = [letter for letter, hands in house[1] if hand in hands]
    return "".join([letter for letter in row if letter in letters])


def seen_by_all(house, row):
    return [seen_by(house, row, hand) for hand in range(house[0])]


def seen_apart(house, one, other):
    need_row(house, one)
    need_row(house, other)
    for hand in range(house[0]):
        place = place_apart(seen_by(house, one, hand), seen_by(house, other, hand))
        if place is not None:
            return (hand, place)
    return None


def place_apart(one, other):
    if one == other:
        return None
    place = 0
    # Slices, as one of the two may have ended here.
    while one[place:place + 1] == other[place:place + 1]:
        place += 1
    return place
