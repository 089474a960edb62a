"""Sets of heaps, told by words, and the machines that let them by."""

from handsapart.errors import Falls, NoSet, TooMany
from handsapart.grown import (
    machine_of_both, machine_of_either, machine_of_others, machine_of_repeats, machine_of_row,
)
from handsapart.houses import is_row, need_house
from handsapart.machines import MOST_ROOMS
from handsapart.repeats import parts_of
from handsapart.thens import machine_of_then

ROW_WORDS = ("row", "again")
# Each first word, and how many rows or sets stand behind it.
PARTS_BEHIND = {"row": 1, "again": 1, "not": 1, "either": 2, "both": 2, "then": 2}
MOST_LETTERS_OF_ROWS = 4
MOST_ROWS = 5
MOST_TUPLES = 12
MOST_ROOMS_MULTIPLIED = 60


def is_set(house, thing):
    need_house(house)
    # Without calls within calls, as what was read from a text may be far deeper than a set.
    pending = [thing]
    tuples = 0
    rows = 0
    while pending and tuples < MOST_TUPLES:
        one = pending.pop()
        tuples += 1
        if not is_tuple_of_set(one):
            return False
        if one[0] not in ROW_WORDS:
            pending.extend(one[1:])
        elif is_row_of_set(house, one[1]):
            rows += 1
        else:
            return False
    return not pending and rows <= MOST_ROWS


def is_tuple_of_set(thing):
    if not isinstance(thing, tuple) or len(thing) == 0 or not is_word_of_set(thing[0]):
        return False
    return len(thing) == 1 + parts_behind(thing[0])


def is_word_of_set(thing):
    return isinstance(thing, str) and thing in PARTS_BEHIND


def parts_behind(word):
    return PARTS_BEHIND[word]


def is_row_of_set(house, thing):
    return is_row(house, thing) and len(thing) <= MOST_LETTERS_OF_ROWS


def need_set(house, one):
    if not is_set(house, one):
        raise NoSet("this is no set of the house")


def machine_of(house, one):
    need_set(house, one)
    for row in rows_again(one):
        if len(parts_of(house, row)) > 1:
            raise Falls(row)
    return machine_of_part(house, one)


def rows_again(one):
    if one[0] in ROW_WORDS:
        return [one[1]] if one[0] == "again" else []
    rows = []
    for part in one[1:]:
        rows.extend(rows_again(part))
    return rows


def machine_of_part(house, one):
    if one[0] == "row":
        machine = machine_of_row(house, one[1])
    elif one[0] == "again":
        machine = machine_of_repeats(house, one[1])
    else:
        machine = machine_of_machines(house, one[0], [machine_of_part(house, part) for part in one[1:]])
    if len(machine[0]) > MOST_ROOMS:
        raise TooMany("the machine of the set, or of a part of it, has too many rooms")
    return machine


def machine_of_machines(house, word, machines):
    if word == "not":
        return machine_of_others(machines[0])
    if word == "either":
        return machine_of_either(house, machines[0], machines[1])
    if word == "both":
        return machine_of_both(house, machines[0], machines[1])
    if len(machines[0][0]) * len(machines[1][0]) > MOST_ROOMS_MULTIPLIED:
        raise TooMany("the machines of two sets one behind the other have too many rooms")
    return machine_of_then(house, machines[0], machines[1])
