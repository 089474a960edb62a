"""What is promised over the whole program, and the names under which all of it is to be found."""

import importlib
import inspect
import random
import unittest

from handsapart.desk import Desk
from handsapart.errors import Falls, TooMany, Torn
from handsapart.hands import Hands
from handsapart.judging import judged
from handsapart.machines import lets
from handsapart.news import newer, stock
from handsapart.pasts import past
from handsapart.repeats import parts, unparted
from handsapart.rows import alike, least_row
from handsapart.seen import seen, seen_apart
from handsapart.sets import is_set, machine_of
from handsapart.tables import is_table, row_apart, table_of
from handsapart.texts import show_house, show_set
from tests.samples import (
    HOUSE, NEWS_HOUSES, RING, THREE, TWO_LETTERS, exchanged, free, random_machines, random_row, random_rows, rows_up_to,
    shuffled, walk,
)
from tests.test_sets import drawn_set
from tests.untorn import untorn_machines
from tests.worded import Worded

INTERFACE = {
    "errors": {"HandError": None, "NoHouse": None, "NoRow": None, "NoMachine": None, "NoRoom": None, "NoHand": None,
               "Unlike": None, "NoPast": None, "TooMany": None, "Torn": "row place", "NoTable": None, "NoSet": None,
               "Falls": "row", "Whole": None, "NoText": None, "NoWord": None},
    "houses": {"is_house": "thing", "own": "house letter", "are_free": "house one other", "is_row": "house thing"},
    "machines": {"is_machine": "house thing", "led": "house machine room row", "lets": "house machine row",
                 "least": "house machine", "told_apart": "house machine one other"},
    "judging": {"judged": "house machine"},
    "rows": {"alike": "house one other", "least_row": "house row", "steps": "house row", "exchanges": "house row"},
    "seen": {"seen": "house row hand", "seen_apart": "house one other"},
    "pieces": {"pieces": "house one two three four"},
    "pasts": {"is_below": "house row i j", "past_of": "house row place", "past": "house row hands",
              "is_past": "house row thing", "tops": "house row places", "cut_by": "house row places"},
    "orders": {"orders_counted": "house row", "pasts_counted": "house row", "orders": "house row"},
    "news": {"no_news": "house", "stock": "house letter", "news_behind": "house letter news",
             "newer": "house one other hand"},
    "memory": {"no_deeds": "house machine", "deed_done": "house machine letter memories",
               "room_of": "house machine memories"},
    "hands": {"Hands": "house machine"},
    "tables": {"is_table": "house thing", "row_apart": "house machine table", "table_of": "house machine"},
    "sets": {"is_set": "house thing", "machine_of": "house one"},
    "repeats": {"parts": "house row", "unparted": "house row many"},
    "texts": {"show_house": "house", "show_machine": "house machine", "show_set": "house one", "read_house": "text",
              "read_machine": "house text", "read_set": "house text"},
    "desk": {"Desk": ""},
}
METHODS = [(Hands, "do", "letter"), (Hands, "memory", "hand"), (Hands, "room", ""), (Hands, "is_good", ""),
           (Desk, "say", "text")]


def behind(house, machine, row):
    hands = Hands(house, machine)
    names = [hands.do(letter) for letter in row]
    return hands, names


class TestInterface(unittest.TestCase):
    def test_names_and_arguments(self):
        for module, names in INTERFACE.items():
            found = importlib.import_module("handsapart." + module)
            for name, arguments in names.items():
                thing = getattr(found, name)
                if arguments is not None:
                    self.assertEqual(" ".join(inspect.signature(thing).parameters), arguments, name)

    def test_methods_and_arguments(self):
        for kind, name, arguments in METHODS:
            due = ("self " + arguments).strip()
            self.assertEqual(" ".join(inspect.signature(getattr(kind, name)).parameters), due)


class TestOneOfTwo(unittest.TestCase):
    def check(self, house, machine, rows):
        """Just one of two is told: a torn row, or hands that do as the machine."""
        told = judged(house, machine)
        if told is not None:
            row, place = told
            self.assertTrue(free(house, row[place], row[place + 1]))
            self.assertNotEqual(lets(house, machine, row), lets(house, machine, exchanged(row, place)))
            with self.assertRaises(Torn) as caught:
                Hands(house, machine)
            self.assertEqual((caught.exception.row, caught.exception.place), told)
            return False
        for row in rows:
            hands, names = behind(house, machine, row)
            self.assertIs(hands.is_good(), walk(house, machine, 0, row) in machine[1])
            for letter, number in names:
                self.assertTrue(0 <= number < stock(house, letter))
        return True

    def test_drawn_machines(self):
        answers = []
        for house in NEWS_HOUSES:
            rows = random_rows(house, 2, 60)
            for machine in random_machines(house, 12, 8) + untorn_machines(house, 80):
                answers.append(self.check(house, machine, rows))
        self.assertGreater(answers.count(True), 50)
        self.assertGreater(answers.count(False), 30)

    def test_small_houses_by_the_table(self):
        for house in [HOUSE, TWO_LETTERS]:
            for machine in untorn_machines(house, 81)[1:]:
                try:
                    table = table_of(house, machine)
                except TooMany:
                    continue
                self.assertIs(is_table(house, table), True)
                self.assertIsNone(row_apart(house, machine, table))


class TestHeaps(unittest.TestCase):
    def test_one_heap_just_where_each_hand_sees_the_same(self):
        chance = random.Random(82)
        for house in NEWS_HOUSES:
            for row in random_rows(house, 3, 30):
                for other in [shuffled(chance, house, row, 100), random_row(chance, house, 30), row[1:] + row[:1]]:
                    same = all(seen(house, row, hand) == seen(house, other, hand) for hand in range(house[0]))
                    self.assertIs(alike(house, row, other), same)
                    self.assertIs(seen_apart(house, row, other) is None, same)
                    self.assertIs(least_row(house, row) == least_row(house, other), same)

    def test_one_heap_one_memory(self):
        chance = random.Random(83)
        for house in NEWS_HOUSES:
            machine = untorn_machines(house, 84)[0]
            row = random_rows(house, 1, 200)[0]
            one = behind(house, machine, row)[0]
            other = behind(house, machine, shuffled(chance, house, row, 600))[0]
            for hand in range(house[0]):
                self.assertEqual(one.memory(hand), other.memory(hand))

    def test_whoever_has_the_newer_news_has_it(self):
        for house in [HOUSE, THREE, RING]:
            machine = ([[0] * len(house[1])], [0])
            for row in random_rows(house, 4, 40):
                hands = behind(house, machine, row)[0]
                own = dict(house[1])
                for one in range(house[0]):
                    for other in range(house[0]):
                        for about in range(house[0]):
                            counts = [
                                len([deed for deed in past(house, row, [hand]) if about in own[row[deed]]])
                                for hand in (one, other)
                            ]
                            sign = (counts[0] > counts[1]) - (counts[0] < counts[1])
                            news = [hands.memory(hand)[0] for hand in (one, other)]
                            self.assertEqual(newer(house, news[0], news[1], about), sign)


class TestSetsHandedToTheHands(unittest.TestCase):
    def test_hands_let_by_what_the_words_say(self):
        chance = random.Random(85)
        told = 0
        for house in [HOUSE, THREE, RING]:
            worded = Worded(house)
            for i in range(25):
                one = drawn_set(chance, house, chance.choice([1, 2, 3]))
                try:
                    machine = machine_of(house, one)
                except TooMany:
                    continue
                told += 1
                for row in random_rows(house, 3, 6):
                    hands = behind(house, machine, row)[0]
                    self.assertIs(hands.is_good(), worded.has(one, least_row(house, row)))
        self.assertGreater(told, 50)

    def test_at_the_desk(self):
        chance = random.Random(86)
        for house in [HOUSE, RING]:
            worded = Worded(house)
            desk = Desk()
            self.assertEqual(desk.say("house\n" + show_house(house)), "ok")
            for i in range(20):
                one = drawn_set(chance, house, chance.choice([1, 2, 3]))
                try:
                    self.assertEqual(desk.say("set " + show_set(house, one)), "ok")
                except TooMany:
                    continue
                row = random_row(chance, house, 7)
                for letter in row:
                    desk.say("do " + letter)
                due = worded.has(one, least_row(house, row))
                self.assertEqual(desk.say("room").split(" ")[1], "good" if due else "bad")
                self.assertEqual(desk.say("lets " + row), "yes" if due else "no")

    def test_a_row_is_repeated_just_where_its_heap_hangs_together(self):
        for house in [HOUSE, RING, TWO_LETTERS]:
            for row in rows_up_to(house, 4):
                one = ("again", row)
                self.assertIs(is_set(house, one), True)
                if len(parts(house, row)) <= 1:
                    self.assertIsNone(judged(house, machine_of(house, one)))
                else:
                    with self.assertRaises(Falls) as caught:
                        machine_of(house, one)
                    self.assertEqual(caught.exception.row, row)
                    self.assertEqual(len(unparted(house, row, 12)), 12)
