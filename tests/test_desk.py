import copy
import random
import unittest

from handsapart.desk import Desk
from handsapart.errors import Falls, NoHand, NoHouse, NoMachine, NoRow, NoSet, NoText, NoWord, TooMany, Torn
from handsapart.hands import Hands
from handsapart.judging import judged
from handsapart.machines import least, lets
from handsapart.news import newer
from handsapart.orders import orders_counted
from handsapart.repeats import parts
from handsapart.rows import alike, steps
from handsapart.sets import machine_of
from handsapart.tables import table_of
from handsapart.texts import read_machine, read_set, show_house, show_machine
from tests.samples import GOSSIP, HOUSE, NEWS_HOUSES, ODD_THINGS, RING, THREE, random_machines, random_rows, shuffled
from tests.untorn import A_AHEAD, BOTH_ODD, hands_turning, states_for, untorn_machines

HOUSE_TEXT = "hands 2\na 0\nb 1\nc 0 1"
ONE_ROOM = "room 0 0 0\ngood 0"
TORN_TEXT = "machine\n" + show_machine(HOUSE, A_AHEAD)
UNTORN_TEXT = "machine\n" + show_machine(HOUSE, BOTH_ODD)
ALL_FREE_TEXT = "house\nhands 4\na 0\nb 1\nc 2\nd 3"

NO_WORDS = [
    # no text, or another first word
    None, True, 0, [], (), ["show"], ("show",), "", " ", "\n", "Show", "SHOW", "shows", "sho", "help", " show", "\nshow",
    "-", "0", "lets,ab", "row a", "is a", "hands 2", "room0", "again c", "good",
    # words too few
    "lets", "alike", "alike a", "steps", "orders", "parts", "do", "news", "newer", "newer 0", "newer 0 1", "set",
    # words too many
    "show a", "show ", "least -", "judge ab", "judge ", "lets a b", "lets a ", "lets  a", "alike a b c", "alike a  b",
    "steps a b", "steps a ", "orders a b", "parts a b", "do a b", "do a ", "do  a", "news 0 1", "news 0 ", "news  0",
    "newer 0 1 0 1", "newer 0 1  0", "room 0", "room ", "table 1", "table ", "house 2\nhands 2\na 0",
    "house \nhands 2\na 0", "machine 0\nroom 0 0 0\ngood", "machine \nroom 0 0 0\ngood",
    # words that are no numbers
    "news a", "news -", "news 00", "news 01", "news -1", "news +1", "news 1.", "news one", "news ", "news 0x1",
    "newer a 0 0", "newer 0 a 0", "newer 0 1 a", "newer 0 1 01", "newer 0 1 -", "newer 0 1 ", "newer  0 1", "news 1_0",
    # something behind a line end where nothing is due
    "show\nshow", "show\n ", "show\n\n", "least\n" + ONE_ROOM, "judge\nab", "lets ab\nab", "lets\nab", "alike a\na",
    "alike a a\na", "steps a\n-", "orders a\na", "parts a\na", "do a\na", "do\na", "news 0\n0", "news\n0", "newer 0 1\n0",
    "newer 0 1 0\n0", "room\nroom", "table\n1", "set row a\nrow b", "set\nrow a", "set row a\n ", "set \nrow a",
    # nothing where something is due
    "house", "machine", "house\n", "machine\n", "house ", "machine ", "house hands 2", "machine good",
]

NO_TEXTS = [
    "set ", "set  ", "set  row a", "set row", "set row ", "set row a ", "set row A", "set row _a", "set row --", "set a",
    "set again a-", "set either row a", "set not", "set row a row b", "set Row a", "set -", "set row a1", "house\na 0",
    "house\nhands", "house\nhands 2\n", "house\nhands 02\na 0", "house\n hands 2\na 0", "house\nhands 2\nab 0",
    "house\n\nhands 2\na 0", "house\nhands 2\nA 0", "house\nhands 2\na 0 ", "house\n ", "house\n\n",
    "machine\n" + HOUSE_TEXT, "machine\nroom 0 0 0", "machine\nroom 0 0 0\n", "machine\nroom 0 0 00\ngood",
    "machine\n\n" + ONE_ROOM, "machine\n ", "machine\ngood\ngood", "house\n" + ONE_ROOM, "machine\nroom 0 0 0\ngood ",
]

# Words that are no rows of the desk's first house, and no letters of it; "" is a blank with nothing behind it.
NO_ROWS = [
    "", "A", "aB", "a1", "0", "12", "_a", "a_", "--", "-a", "a-", "a-b", "{", "`", "?", "a,b", "a.", "'a'", "d",
    "abd", "z", "xyz", "Z" * 40,
]
NO_LETTERS = NO_ROWS + ["-", "aa", "ab", "abc"]

# What the functions refuse, of the desk as it is at first.
REFUSED = [
    ("news 2", NoHand), ("news 4", NoHand), ("news " + "9" * 40, NoHand), ("newer 2 0 0", NoHand),
    ("newer 0 2 0", NoHand), ("newer 0 0 2", NoHand), ("newer 0 1 99", NoHand),
    ("house\nhands 1\na 0", NoHouse), ("house\nhands 2", NoHouse), ("house\nhands 2\na", NoHouse),
    ("house\nhands 2\nb 0\na 0", NoHouse), ("machine\ngood", NoMachine), ("machine\nroom\ngood", NoMachine),
    ("machine\nroom 0 0\ngood", NoMachine), ("machine\nroom 0 0 1\ngood", NoMachine), ("set row d", NoSet),
    ("set again abcab", NoSet), ("set " + "not " * 12 + "row a", NoSet), ("set " + "not " * 900 + "row a", NoSet),
    ("set again ab", Falls), ("set not again ba", Falls),
    ("set then both again aaa again aaaa then row aaaa row aaaa", TooMany),
]

LOOKS = ["show", "least", "judge", "lets -", "lets ab", "lets ba", "lets abc", "steps abcab"]
LOOKS_OF_HANDS = ["room", "news 0", "news 1", "newer 0 1 0", "newer 0 1 1", "newer 1 0 0"]


def looked_at(desk):
    """All that a desk tells that is asked nothing new."""
    told = [desk.say(row) for row in LOOKS]
    if desk.say("judge") == "none":
        told += [desk.say(row) for row in LOOKS_OF_HANDS]
    return told


def told(rows):
    desk = Desk()
    for row in rows:
        desk.say(row)
    return desk


class DeskCase(unittest.TestCase):
    def says(self, desk, pairs):
        for row, due in pairs:
            self.assertEqual(desk.say(row), due, row)

    def refuses(self, desk, row, kind):
        before = looked_at(desk)
        with self.assertRaises(kind, msg=repr(row)) as caught:
            desk.say(row)
        self.assertIs(type(caught.exception), kind, repr(row))
        self.assertEqual(looked_at(desk), before, repr(row))
        return caught.exception


class TestAnswers(DeskCase):
    def test_at_first(self):
        for rows in [
            [("show", HOUSE_TEXT + "\n" + ONE_ROOM)], [("least", ONE_ROOM)], [("judge", "none")], [("lets -", "yes")],
            [("lets abcab", "yes")], [("alike ab ba", "yes")], [("alike ac ca", "no")], [("alike - -", "yes")],
            [("steps bacba", "ab c ab")], [("steps -", "-")], [("orders -", "1")], [("orders baab", "6")],
            [("parts -", "-")], [("parts ba", "a b")], [("parts bacba", "abcab")], [("do a", "a 0")], [("do c", "c 0")],
            [("news 0", "- -")], [("news 1", "- -")], [("newer 0 1 0", "same")], [("newer 1 1 1", "same")],
            [("room", "0 good")], [("table", str(len(table_of(HOUSE, ([[0, 0, 0]], [0])))))],
        ]:
            self.says(Desk(), rows)

    def test_along_a_row(self):
        self.says(Desk(), [
            (UNTORN_TEXT, "ok"), ("room", "0 bad"), ("do a", "a 0"), ("room", "1 bad"), ("news 0", "a0 -"),
            ("news 1", "- -"), ("newer 0 1 0", "first"), ("newer 1 0 0", "second"), ("newer 0 1 1", "same"),
            ("do b", "b 0"), ("room", "3 good"), ("news 1", "- b0"), ("newer 0 1 1", "second"), ("do a", "a 1"),
            ("news 0", "a1 -"), ("room", "2 bad"), ("do c", "c 0"), ("news 0", "c0 c0"), ("news 1", "c0 c0"),
            ("newer 0 1 0", "same"), ("room", "0 bad"), ("do b", "b 0"), ("news 1", "c0 b0"), ("news 0", "c0 c0"),
            ("newer 1 0 1", "first"), ("newer 0 1 1", "second"), ("newer 0 1 0", "same"),
        ])

    def test_house(self):
        desk = Desk()
        self.says(desk, [
            ("do a", "a 0"), (UNTORN_TEXT, "ok"), ("house\nhands 3\nb 0 2\nx 1", "ok"),
            ("show", "hands 3\nb 0 2\nx 1\nroom 0 0\ngood 0"), ("judge", "none"), ("lets bxx", "yes"), ("room", "0 good"),
            ("news 2", "- - -"), ("do b", "b 0"), ("news 2", "b0 - b0"), ("alike bx xb", "yes"), ("do x", "x 0"),
            ("newer 1 2 1", "first"),
        ])
        self.refuses_letters(desk, "a")

    def refuses_letters(self, desk, letter):
        with self.assertRaises(NoRow):
            desk.say("do " + letter)

    def test_machine(self):
        desk = Desk()
        self.says(desk, [
            (UNTORN_TEXT, "ok"), ("show", HOUSE_TEXT + "\n" + show_machine(HOUSE, BOTH_ODD)),
            ("least", show_machine(HOUSE, least(HOUSE, BOTH_ODD))), ("lets ab", "yes"), ("lets a", "no"),
            ("judge", "none"), ("machine\nroom 1 0 0\nroom 0 0 0\ngood", "ok"), ("least", "room 0 0 0\ngood"),
            ("show", HOUSE_TEXT + "\nroom 1 0 0\nroom 0 0 0\ngood"), ("room", "0 bad"), ("lets -", "no"),
        ])

    def test_set(self):
        desk = Desk()
        for text in ["row ab", "row -", "again c", "not again acb", "then again a not row b", "either row a both row b row c"]:
            machine = machine_of(HOUSE, read_set(HOUSE, text))
            self.says(desk, [
                ("set " + text, "ok"), ("show", HOUSE_TEXT + "\n" + show_machine(HOUSE, machine)), ("judge", "none"),
                ("least", show_machine(HOUSE, machine)), ("room", "0 " + ("good" if 0 in machine[1] else "bad")),
            ])

    def test_torn(self):
        desk = Desk()
        self.says(desk, [
            (TORN_TEXT, "ok"), ("judge", "ab 0"), ("lets ab", "yes"), ("lets ba", "no"), ("alike ab ba", "yes"),
            ("show", HOUSE_TEXT + "\n" + show_machine(HOUSE, A_AHEAD)), ("steps ba", "ab"), ("parts ab", "a b"),
            ("least", show_machine(HOUSE, least(HOUSE, A_AHEAD))), ("orders ab", "2"),
        ])
        for row in ["do a", "do z", "do ab", "do ?", "news 0", "news 9", "newer 0 1 0", "newer 7 8 9", "room", "table"]:
            error = self.refuses(desk, row, Torn)
            self.assertEqual((error.row, error.place), ("ab", 0))
        for row in ["do", "do a b", "do ? a", "do A\na", "news x", "newer 0 1", "table "]:
            self.refuses(desk, row, NoWord)
        self.says(desk, [(UNTORN_TEXT, "ok"), ("room", "0 bad"), ("do a", "a 0"), ("room", "1 bad")])

    def test_torn_of_many_rooms_and_late(self):
        for machine in random_machines(RING, 30, 8):
            desk = told(["house\n" + show_house(RING), "machine\n" + show_machine(RING, machine)])
            due = judged(RING, machine)
            if due is None:
                self.says(desk, [("judge", "none"), ("room", "0 " + ("good" if 0 in machine[1] else "bad"))])
            else:
                self.says(desk, [("judge", due[0] + " " + str(due[1]))])
                for row in ["room", "do a"]:
                    error = self.refuses_torn(desk, row)
                    self.assertEqual((error.row, error.place), due)

    def refuses_torn(self, desk, row):
        with self.assertRaises(Torn) as caught:
            desk.say(row)
        return caught.exception

    def test_the_hands_are_set_back(self):
        for row in [UNTORN_TEXT, "house\n" + HOUSE_TEXT, "set row ab"]:
            desk = Desk()
            self.says(desk, [
                (row, "ok"), ("do a", "a 0"), ("do a", "a 1"), ("news 0", "a1 -"), (row, "ok"), ("news 0", "- -"),
                ("do a", "a 0"),
            ])

    def test_questions_dont_set_the_hands_back(self):
        desk = told([UNTORN_TEXT, "do a", "do b", "do a"])
        for row in ["show", "least", "judge", "lets ab", "alike a b", "steps ab", "orders ab", "parts ab", "news 0",
                    "newer 0 1 0", "room", "table"]:
            try:
                desk.say(row)
            except TooMany:
                self.assertEqual(row, "table")
            self.says(desk, [("news 0", "a1 -"), ("news 1", "- b0"), ("room", "2 bad")])

    def test_table(self):
        desk = Desk()
        for row, machine in [("set again c", machine_of(HOUSE, ("again", "c"))), ("machine\nroom 0 0 0\ngood", ([[0] * 3], []))]:
            self.says(desk, [(row, "ok"), ("table", str(len(table_of(HOUSE, machine))))])
        desk.say(ALL_FREE_TEXT)
        with self.assertRaises(TooMany):
            desk.say("table")

    def test_words_of_the_row_told_as_they_are(self):
        self.says(Desk(), [("steps c", "c"), ("steps ab", "ab"), ("parts c", "c"), ("orders ababab", "20")])

    def test_a_line_end_with_nothing_behind_it(self):
        # Nothing is behind it, and nothing is due.
        self.says(Desk(), [("judge\n", "none"), ("lets ab\n", "yes"), ("set row a\n", "ok"), ("lets a", "yes")])

    def test_against_the_functions(self):
        for house in NEWS_HOUSES:
            machine = untorn_machines(house, 70)[0]
            desk = told(["house\n" + show_house(house), "machine\n" + show_machine(house, machine)])
            for row in random_rows(house, 3, 20):
                self.says(desk, [
                    ("lets " + row, "yes" if lets(house, machine, row) else "no"),
                    ("steps " + row, " ".join(steps(house, row))), ("parts " + row, " ".join(parts(house, row))),
                    ("orders " + row, str(orders_counted(house, row))),
                ])
                other = shuffled(random.Random(71), house, row, 40)
                for one in [other, row[::-1]]:
                    self.says(desk, [("alike " + row + " " + one, "yes" if alike(house, row, one) else "no")])

    def test_hands_along_rows(self):
        for house in [HOUSE, THREE, GOSSIP]:
            machine = hands_turning(random.Random(72), house, states_for(house))
            desk = told(["house\n" + show_house(house), "machine\n" + show_machine(house, machine)])
            hands = Hands(house, machine)
            for letter in random_rows(house, 1, 60)[0]:
                name = hands.do(letter)
                self.says(desk, [
                    ("do " + letter, name[0] + " " + str(name[1])),
                    ("room", str(hands.room()) + (" good" if hands.is_good() else " bad")),
                ])
                news = [hands.memory(hand)[0] for hand in range(house[0])]
                for hand in range(house[0]):
                    firsts = [news[hand][q][q][q] for q in range(house[0])]
                    due = " ".join("-" if name is None else name[0] + str(name[1]) for name in firsts)
                    self.says(desk, [("news " + str(hand), due)])
                    for other in range(house[0]):
                        sign = newer(house, news[hand], news[other], 1)
                        due = {1: "first", -1: "second", 0: "same"}[sign]
                        self.says(desk, [("newer " + str(hand) + " " + str(other) + " 1", due)])

    def test_two_desks_at_once(self):
        one, other = Desk(), Desk()
        self.says(one, [(UNTORN_TEXT, "ok"), ("do a", "a 0")])
        self.assertEqual(looked_at(other), looked_at(Desk()))
        self.says(other, [("house\nhands 2\nz 0 1", "ok"), ("do z", "z 0")])
        self.says(one, [("news 0", "a0 -"), ("do c", "c 0"), ("room", "0 bad")])
        self.says(other, [("news 0", "z0 z0"), ("room", "0 good"), ("show", "hands 2\nz 0 1\nroom 0\ngood 0")])

    def test_answers_are_texts(self):
        desk = Desk()
        for row in LOOKS + LOOKS_OF_HANDS + ["table", "do a", "orders a", "parts a", UNTORN_TEXT, "house\n" + HOUSE_TEXT]:
            self.assertIs(type(desk.say(row)), str)

    def test_what_is_shown_can_be_told_again(self):
        for house in NEWS_HOUSES:
            machine = untorn_machines(house, 73)[0]
            desk = told(["house\n" + show_house(house), "machine\n" + show_machine(house, machine)])
            text = desk.say("show")
            rows = text.split("\n")
            count = 1 + len(house[1])
            again = told(["house\n" + "\n".join(rows[:count]), "machine\n" + "\n".join(rows[count:])])
            self.assertEqual(again.say("show"), text)
            self.assertEqual(read_machine(house, desk.say("least")), least(house, machine))


class TestRefusals(DeskCase):
    def desks(self):
        return [Desk(), told([UNTORN_TEXT, "do a", "do c", "do b"]), told([TORN_TEXT])]

    def test_no_word(self):
        for desk in self.desks():
            for row in NO_WORDS + ODD_THINGS:
                self.refuses(desk, row, NoWord)

    def test_no_text(self):
        for desk in self.desks():
            for row in NO_TEXTS:
                self.refuses(desk, row, NoText)

    def test_no_row(self):
        for desk in self.desks():
            for word in NO_ROWS:
                for first in ["lets ", "steps ", "orders ", "parts ", "alike a ", "alike - "]:
                    self.refuses(desk, first + word, NoRow)
                for other in [" a", " -", " ?", " d", " "]:
                    self.refuses(desk, "alike " + word + other, NoRow)

    def test_no_letter(self):
        for desk in self.desks()[:2]:
            for word in NO_LETTERS:
                self.refuses(desk, "do " + word, NoRow)

    def test_torn_is_ahead_of_no_letter(self):
        desk = told([TORN_TEXT])
        for word in NO_LETTERS:
            error = self.refuses(desk, "do " + word, Torn)
            self.assertEqual((error.row, error.place), ("ab", 0))

    def test_rows_and_letters_are_those_of_the_house_on_the_desk(self):
        desk = told(["house\nhands 3\nd 0\nx 1 2"])
        self.says(desk, [("lets dx", "yes"), ("alike dx xd", "yes"), ("do x", "x 0"), ("do d", "d 0")])
        for row in [
            "lets a", "lets dxa", "alike d a", "alike b x", "steps c", "orders ab", "parts ca", "do a", "do dx", "do -",
        ]:
            with self.assertRaises(NoRow, msg=row):
                desk.say(row)
        self.says(desk, [("do x", "x 1"), ("news 1", "- x1 x1")])

    def test_what_the_functions_refuse(self):
        for desk in self.desks()[:2]:
            for row, kind in REFUSED:
                self.refuses(desk, row, kind)

    def test_of_a_torn_machine_too(self):
        desk = told([TORN_TEXT])
        for row, kind in REFUSED:
            hands_asked = row.split(" ")[0] in ["do", "news", "newer"]
            self.refuses(desk, row, Torn if hands_asked else kind)

    def test_no_word_is_ahead_of_no_text_and_no_row(self):
        for row in [
            "lets A B", "alike A", "do A b", "do ab\nx", "set row\nx", "set \nx", "lets A\nx", "news A", "newer A 0",
            "house 1\nhands", "machine 1\nroom", "steps A\n1", "newer 0 1 A",
        ]:
            self.refuses(Desk(), row, NoWord)

    def test_no_word_is_ahead_of_what_the_functions_refuse(self):
        for row in ["lets d e", "do d\nd", "news 9 9", "newer 9 9", "newer 9 9 x", "set row d\nrow e", "alike d"]:
            self.refuses(Desk(), row, NoWord)

    def test_no_text_is_ahead_of_what_the_functions_refuse(self):
        for row in ["set either row d row A", "set again ab row", "house\nhands 9\nA 0", "machine\nroom 9\ngood 01"]:
            self.refuses(Desk(), row, NoText)

    def test_the_row_that_falls(self):
        for row, due in [("set again ba", "ba"), ("set either again bab again ab", "bab")]:
            self.assertEqual(self.refuses(Desk(), row, Falls).row, due)

    def test_a_refused_house_keeps_the_machine_and_the_hands(self):
        desk = told([UNTORN_TEXT, "do a", "do b"])
        before = looked_at(desk)
        for row, kind in [
            ("house\nhands 9\na 0", NoHouse), ("house\nhands", NoText), ("machine\ngood", NoMachine), ("set again ab", Falls),
            ("set row d", NoSet), ("house", NoWord),
        ]:
            self.refuses(desk, row, kind)
        self.assertEqual(looked_at(desk), before)
        self.says(desk, [("do a", "a 1"), ("room", "2 bad")])

    def test_too_many(self):
        desk = told([ALL_FREE_TEXT, "do a"])
        for row in ["set then row abcd not row -", "set both then row abcd not row - row -"]:
            self.refuses_plainly(desk, row, TooMany)
        self.says(desk, [("news 0", "a0 - - -")])

    def refuses_plainly(self, desk, row, kind):
        before = desk.say("show")
        with self.assertRaises(kind):
            desk.say(row)
        self.assertEqual(desk.say("show"), before)

    def test_what_is_handed_in_stays(self):
        desk = Desk()
        for thing in ODD_THINGS:
            kept = copy.deepcopy(thing)
            with self.assertRaises(NoWord):
                desk.say(thing)
            self.assertEqual(repr(thing), repr(kept))
