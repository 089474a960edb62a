"""Judging a machine: whether exchanging free neighbours can change what it lets by."""

from handsapart.houses import is_hand_in_both, letters_of
from handsapart.machines import least_of, need_machine, row_between


def judged(house, machine):
    need_machine(house, machine)
    # In the least machine a row leads to each room and tells each two apart, so all unlike rooms count.
    found = torn_rows(house, least_of(machine))
    if not found:
        return None
    first = min(found)
    return (first[1], first[2])


def torn_rows(house, machine):
    # The first of all torn rows is among these: what it has ahead of its place, and behind, is the first of its kind.
    letters = letters_of(house)
    moves = machine[0]
    ahead = rows_to_rooms(letters, moves)
    found = []
    for one, other in free_pairs(house):
        for room in range(len(moves)):
            straight = moves[moves[room][one]][other]
            exchanged = moves[moves[room][other]][one]
            if straight != exchanged:
                behind = row_between(letters, machine, straight, exchanged)
                row = ahead[room] + letters[one] + letters[other] + behind
                found.append((len(row), row, len(ahead[room])))
    return found


def rows_to_rooms(letters, moves):
    # Rooms are numbered as they are met, so each one's row is there at its turn, and is the first one.
    rows = {0: ""}
    for room, follows in enumerate(moves):
        for letter, follow in zip(letters, follows):
            rows.setdefault(follow, rows[room] + letter)
    return rows


def free_pairs(house):
    # The lesser letter first: of a torn row and the exchanged one, that one comes first.
    pairs = []
    for other, entry in enumerate(house[1]):
        for one in range(other):
            if not is_hand_in_both(house[1][one][1], entry[1]):
                pairs.append((one, other))
    return pairs
