"""Houses: some hands, and letters that belong to them."""

from handsapart.checks import is_number_below, is_pair, is_rising_list_below, is_whole
from handsapart.errors import NoHand, NoHouse, NoRow

FEWEST_HANDS = 2
MOST_HANDS = 4
MOST_LETTERS = 6


def is_house(thing):
    if not is_pair(thing):
        return False
    return is_count_of_hands(thing[0]) and are_entries(thing[0], thing[1])


def is_count_of_hands(thing):
    return is_whole(thing) and FEWEST_HANDS <= thing <= MOST_HANDS


def are_entries(hands, thing):
    if not isinstance(thing, list) or not 1 <= len(thing) <= MOST_LETTERS:
        return False
    if not all([is_entry(hands, entry) for entry in thing]):
        return False
    return all([thing[i][0] < thing[i + 1][0] for i in range(len(thing) - 1)])


def is_entry(hands, thing):
    if not is_pair(thing) or not is_small_letter(thing[0]):
        return False
    return is_rising_list_below(thing[1], hands) and len(thing[1]) > 0


def is_small_letter(thing):
    return isinstance(thing, str) and len(thing) == 1 and "a" <= thing <= "z"


def need_house(house):
    if not is_house(house):
        raise NoHouse("this is no house")


def house_copied(house):
    return (house[0], [(letter, list(hands)) for letter, hands in house[1]])


def need_hand(house, hand):
    if not is_number_below(hand, house[0]):
        raise NoHand("this is no hand of the house")


def letters_of(house):
    return "".join([entry[0] for entry in house[1]])


def is_letter(house, thing):
    # One sign alone: "in" finds longer and empty texts within a text, too.
    return isinstance(thing, str) and len(thing) == 1 and thing in letters_of(house)


def need_letter(house, letter):
    if not is_letter(house, letter):
        raise NoRow("this is no letter of the house")


def hands_of(house, letter):
    return house[1][letters_of(house).index(letter)][1]


def own(house, letter):
    need_house(house)
    need_letter(house, letter)
    return list(hands_of(house, letter))


def are_free(house, one, other):
    need_house(house)
    need_letter(house, one)
    need_letter(house, other)
    # A letter has at least one hand in common with itself, so it is not free of itself.
    return not is_hand_in_both(hands_of(house, one), hands_of(house, other))


def is_hand_in_both(hands, others):
    return any([hand in others for hand in hands])


def is_row(house, thing):
    need_house(house)
    if not isinstance(thing, str):
        return False
    letters = letters_of(house)
    return all([sign in letters for sign in thing])


def need_row(house, row):
    if not is_row(house, row):
        raise NoRow("this is no row of the house")
