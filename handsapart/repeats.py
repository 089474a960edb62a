"""Repeats: the parts into which a row falls, and why a row of several parts can't be repeated by a machine."""

from handsapart.errors import Whole
from handsapart.houses import hands_of, is_hand_in_both, need_row
from handsapart.rows import least_row_of


def parts(house, row):
    need_row(house, row)
    return parts_of(house, row)


def parts_of(house, row):
    told = []
    while row:
        hands = hands_hanging(house, row)
        within = [letter for letter in row if is_hand_in_both(hands_of(house, letter), hands)]
        told.append(least_row_of(house, "".join(within)))
        row = "".join([letter for letter in row if letter not in within])
    return sorted(told)


def hands_hanging(house, row):
    # All hands that letters of the row, one by one, join to those of its first letter.
    hands = list(hands_of(house, row[0]))
    # A turn that brings in no hand is the last one that matters, so as many turns as there are hands are enough.
    for turn in range(house[0]):
        for letter in row:
            if is_hand_in_both(hands_of(house, letter), hands):
                hands.extend([hand for hand in hands_of(house, letter) if hand not in hands])
    return hands


def unparted(house, row, many):
    need_row(house, row)
    told = parts_of(house, row)
    if len(told) <= 1:
        raise Whole("the row doesn't fall into parts")
    # One part so many times is made up to repeats of the row by the others just as many times.
    rest = "".join(told[1:])
    return [(told[0] * times, rest * times) for times in range(many)]
