"""Machines: rooms, the moves between them by letters, and the good rooms."""

from handsapart.checks import is_list_of_numbers_below, is_number_below, is_pair, is_rising_list_below
from handsapart.errors import NoMachine, NoRoom
from handsapart.houses import letters_of, need_house, need_row

MOST_ROOMS = 30


def is_machine(house, thing):
    need_house(house)
    if not is_pair(thing) or not are_moves(len(house[1]), thing[0]):
        return False
    return is_rising_list_below(thing[1], len(thing[0]))


def are_moves(letter_count, thing):
    if not isinstance(thing, list) or not 1 <= len(thing) <= MOST_ROOMS:
        return False
    return all([are_moves_of_room(letter_count, len(thing), moves) for moves in thing])


def are_moves_of_room(letter_count, room_count, thing):
    return is_list_of_numbers_below(thing, room_count) and len(thing) == letter_count


def need_machine(house, machine):
    if not is_machine(house, machine):
        raise NoMachine("this is no machine of the house")


def need_room(machine, room):
    if not is_number_below(room, len(machine[0])):
        raise NoRoom("this is no room of the machine")


def led(house, machine, room, row):
    need_machine(house, machine)
    need_room(machine, room)
    need_row(house, row)
    return room_behind(house, machine, room, row)


def room_behind(house, machine, room, row):
    letters = letters_of(house)
    for letter in row:
        room = machine[0][room][letters.index(letter)]
    return room


def lets(house, machine, row):
    need_machine(house, machine)
    need_row(house, row)
    return room_behind(house, machine, 0, row) in machine[1]


def least(house, machine):
    need_machine(house, machine)
    return least_of(machine)


def least_of(machine):
    kinds = kinds_of_rooms(machine)
    rooms = rooms_as_met(machine[0], kinds)
    numbers = {}
    for number, room in enumerate(rooms):
        numbers[kinds[room]] = number
    moves = []
    for room in rooms:
        moves.append([numbers[kinds[follow]] for follow in machine[0][room]])
    good = [number for number, room in enumerate(rooms) if room in machine[1]]
    return (moves, good)


def kinds_of_rooms(machine):
    # Rooms are of one kind where no row tells them apart; kinds are parted until none parts further.
    kinds = [int(room in machine[1]) for room in range(len(machine[0]))]
    parted = parted_kinds(machine[0], kinds)
    while parted != kinds:
        kinds = parted
        parted = parted_kinds(machine[0], kinds)
    return kinds


def parted_kinds(moves, kinds):
    # Numbering the kinds as they are met makes equal partings equal lists.
    numbers = {}
    parted = []
    for room, follows in enumerate(moves):
        look = (kinds[room], tuple([kinds[follow] for follow in follows]))
        parted.append(numbers.setdefault(look, len(numbers)))
    return parted


def rooms_as_met(moves, kinds):
    # One room stands for its kind: the one that is met first.
    rooms = [0]
    met = {kinds[0]: True}
    place = 0
    while place < len(rooms):
        for follow in moves[rooms[place]]:
            if kinds[follow] not in met:
                met[kinds[follow]] = True
                rooms.append(follow)
        place += 1
    return rooms


def told_apart(house, machine, one, other):
    need_machine(house, machine)
    need_room(machine, one)
    need_room(machine, other)
    return row_between(letters_of(house), machine, one, other)


def row_between(letters, machine, one, other):
    # Pairs are met in the order of their rows, shorter ones first, so the first one apart has the first row.
    rows = {(one, other): ""}
    pairs = [(one, other)]
    place = 0
    while place < len(pairs):
        pair = pairs[place]
        if (pair[0] in machine[1]) != (pair[1] in machine[1]):
            return rows[pair]
        for number, letter in enumerate(letters):
            follow = (machine[0][pair[0]][number], machine[0][pair[1]][number])
            if follow not in rows:
                rows[follow] = rows[pair] + letter
                pairs.append(follow)
        place += 1
    return None
