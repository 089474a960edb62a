"""Texts: how houses, machines and sets are written, and read again."""

from handsapart.errors import NoText
from handsapart.houses import is_small_letter, need_house
from handsapart.machines import need_machine
from handsapart.sets import ROW_WORDS, is_word_of_set, need_set, parts_behind

FIGURES = "0123456789"
NO_LETTERS = "-"


def show_house(house):
    need_house(house)
    rows = [with_numbers("hands", [house[0]])]
    rows.extend([with_numbers(letter, hands) for letter, hands in house[1]])
    return "\n".join(rows)


def show_machine(house, machine):
    need_machine(house, machine)
    rows = [with_numbers("room", moves) for moves in machine[0]]
    rows.append(with_numbers("good", machine[1]))
    return "\n".join(rows)


def with_numbers(word, numbers):
    return " ".join([word] + [str(number) for number in numbers])


def show_set(house, one):
    need_set(house, one)
    return " ".join(words_of_set(one))


def words_of_set(one):
    if one[0] in ROW_WORDS:
        return [one[0], row_written(one[1])]
    words = [one[0]]
    for part in one[1:]:
        words.extend(words_of_set(part))
    return words


def row_written(row):
    return NO_LETTERS if row == "" else row


def row_read(word):
    return "" if word == NO_LETTERS else word


def is_row_word(word):
    return word == NO_LETTERS or (word != "" and all([is_small_letter(sign) for sign in word]))


def is_number_word(word):
    if word == "" or not all([sign in FIGURES for sign in word]):
        return False
    return word == "0" or word[0] != "0"


def read_house(text):
    rows = rows_of_words(text)
    need_written(len(rows[0]) == 2 and are_numbers_behind("hands", rows[0]))
    for words in rows[1:]:
        need_written(is_small_letter(words[0]) and are_numbers_behind(words[0], words))
    house = (int(rows[0][1]), [(words[0], numbers_behind(words)) for words in rows[1:]])
    need_house(house)
    return house


def read_machine(house, text):
    need_house(house)
    rows = rows_of_words(text)
    need_written(are_numbers_behind("good", rows[-1]))
    for words in rows[:-1]:
        need_written(are_numbers_behind("room", words))
    machine = ([numbers_behind(words) for words in rows[:-1]], numbers_behind(rows[-1]))
    need_machine(house, machine)
    return machine


def rows_of_words(text):
    need_written(isinstance(text, str))
    return [row.split(" ") for row in text.split("\n")]


def need_written(is_so):
    if not is_so:
        raise NoText("this is not written as it should be")


def are_numbers_behind(first, words):
    return words[0] == first and all([is_number_word(word) for word in words[1:]])


def numbers_behind(words):
    return [int(word) for word in words[1:]]


def read_set(house, text):
    need_house(house)
    need_written(isinstance(text, str))
    one = set_put_together(tuples_read(text.split(" ")))
    need_set(house, one)
    return one


def tuples_read(words):
    # As they are read, those of rows whole, and of the others their first words alone.
    told = []
    sets_due = 1
    place = 0
    while sets_due > 0:
        need_written(place < len(words) and is_word_of_set(words[place]))
        word = words[place]
        place += 1
        if word in ROW_WORDS:
            need_written(place < len(words) and is_row_word(words[place]))
            told.append((word, row_read(words[place])))
            place += 1
            sets_due -= 1
        else:
            told.append((word,))
            sets_due += parts_behind(word) - 1
    need_written(place == len(words))
    return told


def set_put_together(tuples):
    # From the last one on, so that the sets that a tuple has are ready where its first word is met.
    ready = []
    for one in reversed(tuples):
        if one[0] in ROW_WORDS:
            ready.append(one)
        else:
            ready.append(one + tuple([ready.pop() for part in range(parts_behind(one[0]))]))
    return ready[0]
