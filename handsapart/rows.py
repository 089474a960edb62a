"""Rows and their heaps: what exchanging free neighbours makes of a row."""

from handsapart.houses import hands_of, is_hand_in_both, need_row
from handsapart.seen import seen_by_all


def alike(house, one, other):
    need_row(house, one)
    need_row(house, other)
    return are_alike(house, one, other)


def are_alike(house, one, other):
    # Exchanges can't be gone through for long rows; what the hands see says the same.
    return seen_by_all(house, one) == seen_by_all(house, other)


def least_row(house, row):
    need_row(house, row)
    return least_row_of(house, row)


def least_row_of(house, row):
    letters = []
    while row:
        place = place_of_first(house, row)
        letters.append(row[place])
        row = row[:place] + row[place + 1:]
    return "".join(letters)


def place_of_first(house, row):
    return min(front_places(house, row), key=lambda place: row[place])


def front_places(house, row):
    # The places whose letters can be brought to the front: no hand of theirs has a letter ahead.
    places = []
    busy = []
    for place, letter in enumerate(row):
        hands = hands_of(house, letter)
        if not is_hand_in_both(hands, busy):
            places.append(place)
        busy.extend(hands)
    return places


def steps(house, row):
    need_row(house, row)
    told = []
    while row:
        places = front_places(house, row)
        told.append("".join(sorted([row[place] for place in places])))
        row = "".join([letter for place, letter in enumerate(row) if place not in places])
    return told


def exchanges(house, row):
    need_row(house, row)
    told = []
    # A letter brought forward passes just those that stand behind it in the least row, so no exchange is spare.
    for done in range(len(row)):
        place = done + place_of_first(house, row[done:])
        told.extend(list(range(place - 1, done - 1, -1)))
        row = row[:done] + row[place] + row[done:place] + row[place + 1:]
    return told
