"""Pasts: which deeds of a row are below which, and sets of deeds with all that are below them."""

from handsapart.checks import is_rising_list_below
from handsapart.errors import NoPast
from handsapart.houses import hands_of, is_hand_in_both, need_row


def is_below(house, row, i, j):
    need_row(house, row)
    return i in deeds_below(house, row, j)


def past_of(house, row, place):
    need_row(house, row)
    return deeds_below(house, row, place)


def deeds_below(house, row, place):
    return deeds_known(house, row[:place + 1], hands_of(house, row[place]))


def past(house, row, hands):
    need_row(house, row)
    return deeds_known(house, row, hands)


def deeds_known(house, row, hands):
    # Gone backwards, a deed is known where one of its hands did a known deed behind it.
    knowing = list(hands)
    places = []
    for place in range(len(row) - 1, -1, -1):
        doers = hands_of(house, row[place])
        if is_hand_in_both(doers, knowing):
            places.append(place)
            knowing.extend(doers)
    return sorted(places)


def is_past(house, row, thing):
    need_row(house, row)
    return is_rising_list_below(thing, len(row)) and are_closed(house, row, thing)


def are_closed(house, row, places):
    # A hand that did a deed beyond the places can't do one of them behind it.
    beyond = []
    for place, letter in enumerate(row):
        doers = hands_of(house, letter)
        if place not in places:
            beyond.extend(doers)
        elif is_hand_in_both(doers, beyond):
            return False
    return True


def need_past(house, row, places):
    if not is_past(house, row, places):
        raise NoPast("this is no past of the row")


def tops(house, row, places):
    need_past(house, row, places)
    # Each chain within a past goes on by a hand of the deed, so a deed that no hand of it follows is a top.
    told = []
    later = []
    for i in range(len(places) - 1, -1, -1):
        doers = hands_of(house, row[places[i]])
        if not is_hand_in_both(doers, later):
            told.append(places[i])
        later.extend(doers)
    return sorted(told)


def cut_by(house, row, places):
    need_past(house, row, places)
    within = "".join([letter for place, letter in enumerate(row) if place in places])
    beyond = "".join([letter for place, letter in enumerate(row) if place not in places])
    return (within, beyond)
