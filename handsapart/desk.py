"""The desk: it keeps a house, a machine and its hands, is told rows of text, and answers with texts."""

from handsapart.errors import NoRow, NoWord
from handsapart.hands import Hands
from handsapart.judging import judged
from handsapart.machines import least, lets
from handsapart.news import first_hand, newer
from handsapart.orders import orders_counted
from handsapart.repeats import parts
from handsapart.rows import alike, steps
from handsapart.sets import machine_of
from handsapart.tables import table_of
from handsapart.texts import (
    is_number_word, is_row_word, read_house, read_machine, read_set, row_read, show_house, show_machine,
)

# Each first word, and what is due behind it in its row.
WORDS_DUE = {
    "house": (), "machine": (), "set": ("set",), "show": (), "least": (), "judge": (), "lets": ("row",),
    "alike": ("row", "row"), "steps": ("row",), "orders": ("row",), "parts": ("row",), "do": ("letter",),
    "news": ("number",), "newer": ("number", "number", "number"), "room": (), "table": (),
}
# Behind these alone a text is due, behind a line end.
WORDS_WITH_TEXT = ("house", "machine")


def parted_text(text):
    need_word(isinstance(text, str))
    cut = text.partition("\n")
    row = cut[0].partition(" ")
    need_word(row[0] in WORDS_DUE)
    words = [] if row[1] == "" else words_behind(row[0], row[2])
    due = WORDS_DUE[row[0]]
    need_word(len(words) == len(due))
    need_word(all([is_number_word(word) for kind, word in zip(due, words) if kind == "number"]))
    need_word((cut[2] != "") == (row[0] in WORDS_WITH_TEXT))
    return (row[0], words, cut[2])


def words_behind(first, rest):
    # A set has as many words as it needs: whether they are right is not for the desk to say.
    return [rest] if first == "set" else rest.split(" ")


def need_word(is_so):
    if not is_so:
        raise NoWord("the desk knows no such row")


def value_read(kind, word):
    if kind == "number":
        return int(word)
    # What is no letter is left to the hands to refuse, as a torn machine is refused ahead of it.
    return row_told(word) if kind == "row" else word


def row_told(word):
    # Left to the functions, a word without signs would be the row without letters, which is written otherwise.
    if not is_row_word(word):
        raise NoRow("this is not written as a row is")
    return row_read(word)


def answer_house(desk, values):
    house = read_house(values[0])
    return begin(desk, house, machine_of_one_room(house))


def answer_machine(desk, values):
    return begin(desk, desk.house, read_machine(desk.house, values[0]))


def answer_set(desk, values):
    return begin(desk, desk.house, machine_of(desk.house, read_set(desk.house, values[0])))


def begin(desk, house, machine):
    desk.house = house
    desk.machine = machine
    desk.hands = None
    return "ok"


def machine_of_one_room(house):
    return ([[0] * len(house[1])], [0])


def answer_show(desk, values):
    return "\n".join([show_house(desk.house), show_machine(desk.house, desk.machine)])


def answer_least(desk, values):
    return show_machine(desk.house, least(desk.house, desk.machine))


def answer_judge(desk, values):
    torn = judged(desk.house, desk.machine)
    return "none" if torn is None else spaced(torn)


def spaced(things):
    return " ".join([str(thing) for thing in things])


def answer_lets(desk, values):
    return yes_or_no(lets(desk.house, desk.machine, values[0]))


def answer_alike(desk, values):
    return yes_or_no(alike(desk.house, values[0], values[1]))


def yes_or_no(truth):
    return "yes" if truth else "no"


def answer_steps(desk, values):
    return spaced_or_dash(steps(desk.house, values[0]))


def answer_orders(desk, values):
    return str(orders_counted(desk.house, values[0]))


def answer_parts(desk, values):
    return spaced_or_dash(parts(desk.house, values[0]))


def spaced_or_dash(rows):
    return spaced(rows) if rows else "-"


def hands_at(desk):
    # Made where they are first asked for, as a torn machine may lie on the desk, but has no hands.
    if desk.hands is None:
        desk.hands = Hands(desk.house, desk.machine)
    return desk.hands


def answer_do(desk, values):
    return spaced(hands_at(desk).do(values[0]))


def answer_news(desk, values):
    news = hands_at(desk).memory(values[0])[0]
    return spaced([name_written(first_hand(news, hand)) for hand in range(len(news))])


def name_written(name):
    return "-" if name is None else "".join([name[0], str(name[1])])


def answer_newer(desk, values):
    hands = hands_at(desk)
    news = [hands.memory(hand)[0] for hand in values[:2]]
    sign = newer(desk.house, news[0], news[1], values[2])
    if sign == 0:
        return "same"
    return "first" if sign > 0 else "second"


def answer_room(desk, values):
    hands = hands_at(desk)
    return spaced([hands.room(), "good" if hands.is_good() else "bad"])


def answer_table(desk, values):
    return str(len(table_of(desk.house, desk.machine)))


ANSWERS = {
    "house": answer_house, "machine": answer_machine, "set": answer_set, "show": answer_show, "least": answer_least,
    "judge": answer_judge, "lets": answer_lets, "alike": answer_alike, "steps": answer_steps, "orders": answer_orders,
    "parts": answer_parts, "do": answer_do, "news": answer_news, "newer": answer_newer, "room": answer_room,
    "table": answer_table,
}


class Desk:
    def __init__(self):
        self.house = (2, [("a", [0]), ("b", [1]), ("c", [0, 1])])
        self.machine = machine_of_one_room(self.house)
        self.hands = None

    def say(self, text):
        told = parted_text(text)
        values = [value_read(kind, word) for kind, word in zip(WORDS_DUE[told[0]], told[1])]
        if told[0] in WORDS_WITH_TEXT:
            values.append(told[2])
        return ANSWERS[told[0]](self, values)
