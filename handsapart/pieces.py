"""Pieces: what two ways of parting one heap into two have in common."""

from handsapart.errors import Unlike
from handsapart.houses import need_row
from handsapart.rows import are_alike, least_row_of


def pieces(house, one, two, three, four):
    for row in [one, two, three, four]:
        need_row(house, row)
    if not are_alike(house, one + two, three + four):
        raise Unlike("the first two rows together are not alike the other two")
    # All rows of a heap have a letter's deeds in one order, so counting tells which deeds are the same ones.
    common = parted(one, three)
    rest = parted(three, one)[1]
    last = parted(two, rest)[1]
    return tuple([least_row_of(house, row) for row in [common[0], common[1], rest, last]])


def parted(row, other):
    # Of each letter as many as the other row has, and what is left.
    within = []
    beyond = []
    for letter in row:
        if within.count(letter) < other.count(letter):
            within.append(letter)
        else:
            beyond.append(letter)
    return ("".join(within), "".join(beyond))
