"""Tables: all memories that the hands can have together, and what each letter makes of them."""

from handsapart.checks import is_tuple_of_numbers_below, is_whole
from handsapart.errors import NoTable, TooMany
from handsapart.houses import letters_of, need_house
from handsapart.machines import least_of, need_machine
from handsapart.memory import all_behind, deed, memory_of_none, need_untorn, of_hands, room_known

MOST_ENTRIES = 600
HANDS_OF_TABLES = 2
MOST_LETTERS_OF_TABLES = 4


def is_table(house, thing):
    need_house(house)
    if not isinstance(thing, list) or not 1 <= len(thing) <= MOST_ENTRIES:
        return False
    if not all([is_entry_of_table(house, len(thing), entry) for entry in thing]):
        return False
    if len(set([entry[0] for entry in thing])) < len(thing):
        return False
    return all([is_done_by_hands(thing, number, entry[1]) for number, entry in enumerate(house[1])])


def is_entry_of_table(house, entry_count, thing):
    if not isinstance(thing, tuple) or len(thing) != 3:
        return False
    if not are_memories(house, thing[0]) or not isinstance(thing[1], bool):
        return False
    return is_tuple_of_numbers_below(thing[2], entry_count) and len(thing[2]) == len(house[1])


def are_memories(house, thing):
    if not isinstance(thing, tuple) or len(thing) != house[0]:
        return False
    return all([is_whole(memory) and memory >= 0 for memory in thing])


def is_done_by_hands(table, number, hands):
    # The letter of this number reads and changes the memories of these hands alone.
    made = {}
    for memories, good, follows in table:
        ahead = parted_by(hands, memories)
        behind = parted_by(hands, table[follows[number]][0])
        if ahead[1] != behind[1] or made.setdefault(ahead[0], behind[0]) != behind[0]:
            return False
    return True


def parted_by(hands, memories):
    within = tuple([memory for hand, memory in enumerate(memories) if hand in hands])
    beyond = tuple([memory for hand, memory in enumerate(memories) if hand not in hands])
    return (within, beyond)


def row_apart(house, machine, table):
    need_machine(house, machine)
    if not is_table(house, table):
        raise NoTable("this is no table of the house")
    # Pairs of an entry and a room are met in the order of their rows, shorter ones first.
    pairs = [(0, 0)]
    came = {(0, 0): None}
    place = 0
    while place < len(pairs):
        pair = pairs[place]
        if table[pair[0]][1] != (pair[1] in machine[1]):
            return row_to(came, pair)
        for letter, follow, move in zip(letters_of(house), table[pair[0]][2], machine[0][pair[1]]):
            if (follow, move) not in came:
                came[(follow, move)] = (pair, letter)
                pairs.append((follow, move))
        place += 1
    return None


def row_to(came, pair):
    # Pairs keep the letter by which they were met, not their rows, which may be long where there are many pairs.
    letters = []
    while came[pair] is not None:
        letters.append(came[pair][1])
        pair = came[pair][0]
    return "".join(list(reversed(letters)))


def table_of(house, machine):
    need_untorn(house, machine)
    if house[0] != HANDS_OF_TABLES or len(house[1]) > MOST_LETTERS_OF_TABLES:
        raise TooMany("the house is too large for its table to be told")
    smallest = least_of(machine)
    met = memories_met(house, smallest)
    table = []
    for memories, numbers, follows in zip(met[0], memories_numbered(met[0]), met[1]):
        table.append((numbers, room_known(memories) in smallest[1], follows))
    return table


def memories_met(house, machine):
    entries = [tuple([memory_of_none(house, machine)] * house[0])]
    numbers = {entries[0]: 0}
    follows = []
    while len(follows) < len(entries):
        memories = entries[len(follows)]
        met = []
        for letter in letters_of(house):
            behind = memories_behind(house, machine, letter, memories)
            if behind not in numbers:
                numbers[behind] = len(entries)
                entries.append(behind)
            met.append(numbers[behind])
        follows.append(tuple(met))
        if len(entries) > MOST_ENTRIES:
            raise TooMany("the table has too many entries to be told")
    return (entries, follows)


def memories_behind(house, machine, letter, memories):
    done = deed(house, machine, letter, of_hands(house, letter, memories))
    return tuple(all_behind(house, letter, memories, done[1]))


def memories_numbered(entries):
    numbers = [{} for hand in entries[0]]
    numbered = []
    for memories in entries:
        told = [known.setdefault(memory, len(known)) for known, memory in zip(numbers, memories)]
        numbered.append(tuple(told))
    return numbered
