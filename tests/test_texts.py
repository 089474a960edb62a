import copy
import random
import unittest

from handsapart.errors import NoHouse, NoMachine, NoSet, NoText
from handsapart.houses import is_house
from handsapart.machines import is_machine
from handsapart.sets import is_set
from handsapart.texts import read_house, read_machine, read_set, show_house, show_machine, show_set
from tests.samples import (
    BIG, HEAP_HOUSES, HOUSE, NEWS_HOUSES, NO_HOUSES, NO_MACHINES, ODD_THINGS, ONE_LETTER, TWO_LETTERS, WIDE, lists_in,
    nest, random_machines,
)
from tests.test_sets import NO_SETS, SETS, drawn_set

HOUSE_TEXT = "hands 2\na 0\nb 1\nc 0 1"
MACHINE = ([[1, 2, 0], [1, 1, 1], [0, 1, 2]], [0, 2])
MACHINE_TEXT = "room 1 2 0\nroom 1 1 1\nroom 0 1 2\ngood 0 2"

NO_TEXTS = [None, True, False, 0, 1, -1, BIG, [], (), ["hands 2"], ("hands 2", "a 0"), nest(9), [HOUSE_TEXT]]

# Wrong in any text of rows of words.
AMISS = [
    lambda text: " " + text, lambda text: text + " ", lambda text: "\n" + text, lambda text: text + "\n",
    lambda text: text.replace(" ", "  ", 1), lambda text: text.replace("\n", "\n\n", 1),
    lambda text: text.replace("\n", " \n", 1), lambda text: text.replace("\n", "\n ", 1),
    lambda text: text.replace("\n", " ", 1), lambda text: text.upper(), lambda text: text + "\n" + text,
    lambda text: text.replace(" 0", " 00", 1), lambda text: text.replace(" 1", " 01", 1),
    lambda text: text.replace(" 1", " +1", 1), lambda text: text.replace(" 1", " -1", 1),
    lambda text: text.replace(" 1", " 1.0", 1), lambda text: text.replace(" 1", " one", 1),
    lambda text: text.replace(" 1", " 1_0", 1), lambda text: text.replace(" 1", ",1", 1), lambda text: text + ".",
    lambda text: text.replace(" 1", " x1", 1), lambda text: text.replace(" 0", " -0", 1), lambda text: text + " a",
]


class TestHouses(unittest.TestCase):
    def test_some(self):
        self.assertEqual(show_house(HOUSE), HOUSE_TEXT)
        self.assertEqual(show_house(ONE_LETTER), "hands 2\nq 1")
        self.assertEqual(show_house(WIDE), "hands 4\na 0\nc 1 2\nd 3\nm 0 1 2 3\ny 2\nz 0 3")
        self.assertEqual(read_house(HOUSE_TEXT), HOUSE)

    def test_written_and_read_again(self):
        for house in NEWS_HOUSES:
            told = read_house(show_house(house))
            self.assertEqual(told, house)
            self.assertIs(is_house(told), True)

    def test_not_so_written(self):
        for change in AMISS:
            text = change(HOUSE_TEXT)
            self.assertNotEqual(text, HOUSE_TEXT)
            with self.assertRaises(NoText, msg=text):
                read_house(text)
        for text in NO_TEXTS + [
            "", " ", "\n", "-", "a 0", "a 0\nhands 2", "hands", "hands\na 0", "hands 2 2\na 0", "hands two\na 0",
            "hands 02\na 0", "hand 2\na 0", "Hands 2\na 0", "hands 2\nab 0", "hands 2\nA 0", "hands 2\n0 0",
            "hands 2\n- 0", "hands 2\n 0", "hands 2\na 0 b", "hands 2\na b", "hands 2\na 0\n", "hands 2\n\na 0",
            "hands 2\na 0\n\nb 1", "hands 2 \na 0", "hands  2\na 0", "hands 2\na  0", "hands 2\na 0 ", "hands 2\n",
            "hands 2\nhands 2", "hands 2\na -1", "hands 2\na 0,1", "hands -2\na 0", "hands 2\naa", "hands 2\n{ 0",
            "hands 2\n` 0", "hands 2\na 0\ngood", "room 0\ngood", "hands 2a 0", "hands 2\na 00", "hands 2\na 0 01",
            "hands 2\t\na 0",
        ]:
            with self.assertRaises(NoText, msg=repr(text)):
                read_house(text)

    def test_so_written_but_none(self):
        for text in [
            "hands 2", "hands 1\na 0", "hands 5\na 0", "hands 0\na 0", "hands 12\na 0", "hands 2\na", "hands 2\na 0\nb",
            "hands 2\nb 0\na 0", "hands 2\na 0\na 1", "hands 2\na 2", "hands 2\na 1 0", "hands 2\na 0 0",
            "hands 2\na 0 1 2", "hands 2\na 0\nb 0\nc 0\nd 0\ne 0\nf 0\ng 0", "hands " + "9" * 40 + "\na 0",
            "hands 2\na " + "1" * 40, "hands 99\nz\ny 77", "hands 2\na 10",
        ]:
            with self.assertRaises(NoHouse, msg=repr(text)):
                read_house(text)

    def test_no_text_is_ahead_of_no_house(self):
        for text in ["hands 9\na 0\nB 1", "hands 9\na 0 ", "hands 2\na\nb 01", "hands 1\n"]:
            with self.assertRaises(NoText, msg=repr(text)):
                read_house(text)

    def test_no_house(self):
        for house in NO_HOUSES + ODD_THINGS:
            with self.assertRaises(NoHouse, msg=repr(house)):
                show_house(house)

    def test_the_told_lists_are_the_askers_own(self):
        told = read_house(HOUSE_TEXT)
        for one in lists_in(told):
            one.clear()
        self.assertEqual(read_house(HOUSE_TEXT), HOUSE)


class TestMachines(unittest.TestCase):
    def test_some(self):
        self.assertEqual(show_machine(HOUSE, MACHINE), MACHINE_TEXT)
        self.assertEqual(show_machine(HOUSE, ([[0, 0, 0]], [])), "room 0 0 0\ngood")
        self.assertEqual(show_machine(ONE_LETTER, ([[0]], [0])), "room 0\ngood 0")
        self.assertEqual(read_machine(HOUSE, MACHINE_TEXT), MACHINE)
        self.assertEqual(read_machine(HOUSE, "room 0 0 0\ngood"), ([[0, 0, 0]], []))

    def test_not_the_least_machine_but_as_it_stands(self):
        machine = ([[1, 1], [1, 0], [12, 2]] + [[0, 0]] * 10, [10, 12])
        self.assertEqual(read_machine(TWO_LETTERS, show_machine(TWO_LETTERS, machine)), machine)
        self.assertTrue(show_machine(TWO_LETTERS, machine).endswith("good 10 12"))

    def test_written_and_read_again(self):
        for house in HEAP_HOUSES:
            for machine in random_machines(house, 35, 30):
                told = read_machine(house, show_machine(house, machine))
                self.assertEqual(told, machine)
                self.assertIs(is_machine(house, told), True)

    def test_not_so_written(self):
        for change in AMISS:
            text = change(MACHINE_TEXT)
            self.assertNotEqual(text, MACHINE_TEXT)
            with self.assertRaises(NoText, msg=text):
                read_machine(HOUSE, text)
        for text in NO_TEXTS + [
            "", " ", "\n", "room 0 0 0", "room 0 0 0\n", "good 0\nroom 0 0 0", "room 0 0 0\ngood\ngood",
            "room 0 0 0\ngood 0\nroom 0 0 0", "rooms 0 0 0\ngood 0", "room 0 0 0\nbad 0", "Room 0 0 0\ngood 0",
            "room 0 0 0\nGood 0", "room 0 0 0\ngood -", "room - - -\ngood 0", "room a b c\ngood 0",
            "room 0 0 00\ngood 0", "room 0 0 0\ngood 0 ", "room 0 0 0\ngood ", "room 0 0 0 \ngood 0", "room \ngood",
            "0 0 0\ngood 0", "room 0 0 0\n0", "room 0 0 0\n\ngood 0", "room0 0 0\ngood 0", "room 0 0 0\ngood0", "-",
            "goods", "room", "hands 2\na 0",
        ]:
            with self.assertRaises(NoText, msg=repr(text)):
                read_machine(HOUSE, text)

    def test_so_written_but_none(self):
        for text in [
            "good", "good 0", "room\ngood", "room\ngood 0", "room 0 0\ngood 0", "room 0 0 0 0\ngood 0",
            "room 0 0 1\ngood 0", "room 0 0 0\ngood 1", "room 0 0 0\ngood 0 0", "room 0 0 0\nroom 0 0 0\ngood 1 0",
            "room 0 0 0\nroom\ngood", "\n".join(["room 0 0 0"] * 31 + ["good"]), "room 0 0 " + "9" * 40 + "\ngood",
            "room 0 0 0\ngood " + "9" * 40,
        ]:
            with self.assertRaises(NoMachine, msg=repr(text)):
                read_machine(HOUSE, text)
        with self.assertRaises(NoMachine):
            read_machine(WIDE, MACHINE_TEXT)

    def test_refusals_in_order(self):
        for house in NO_HOUSES + ODD_THINGS:
            for text in [MACHINE_TEXT, "room", None]:
                with self.assertRaises(NoHouse, msg=repr(house)):
                    read_machine(house, text)
            for machine in [MACHINE, None]:
                with self.assertRaises(NoHouse, msg=repr(house)):
                    show_machine(house, machine)
        for machine in NO_MACHINES + ODD_THINGS:
            with self.assertRaises(NoMachine, msg=repr(machine)):
                show_machine(HOUSE, machine)
        for text in ["room 0 0 9\ngood 00", "room 0\ngood x", "room 0\n"]:
            with self.assertRaises(NoText):
                read_machine(HOUSE, text)

    def test_the_told_lists_are_the_askers_own(self):
        told = read_machine(HOUSE, MACHINE_TEXT)
        for one in lists_in(told):
            one.append(7)
        self.assertEqual(read_machine(HOUSE, MACHINE_TEXT), MACHINE)


class TestSets(unittest.TestCase):
    def test_some(self):
        for one, text in [
            (("row", ""), "row -"), (("row", "abc"), "row abc"), (("again", ""), "again -"), (("again", "c"), "again c"),
            (("not", ("row", "a")), "not row a"), (("either", ("row", "a"), ("again", "b")), "either row a again b"),
            (("then", ("not", ("row", "")), ("both", ("row", "a"), ("row", "b"))), "then not row - both row a row b"),
        ]:
            self.assertEqual(show_set(HOUSE, one), text)
            self.assertEqual(read_set(HOUSE, text), one)

    def test_written_and_read_again(self):
        chance = random.Random(60)
        for one in SETS:
            self.assertEqual(read_set(HOUSE, show_set(HOUSE, one)), one)
        for house in HEAP_HOUSES:
            for i in range(20):
                one = drawn_set(chance, house, chance.randint(1, 5))
                if is_set(house, one):
                    self.assertEqual(read_set(house, show_set(house, one)), one)

    def test_letters_that_make_a_first_word(self):
        house = (2, [("n", [0]), ("o", [1]), ("r", [0]), ("t", [0]), ("w", [1])])
        for one in [("row", "row"), ("again", "not"), ("then", ("row", "row"), ("not", ("row", "not")))]:
            self.assertEqual(read_set(house, show_set(house, one)), one)
        self.assertEqual(read_set(house, "row row"), ("row", "row"))
        with self.assertRaises(NoText):
            read_set(house, "row row row")

    def test_not_so_written(self):
        for text in NO_TEXTS + [
            "", " ", "-", "a", "row", "row ", "again ", "not row ", "again", "not", "either", "row a ", " row a", "row  a", "row a b", "row a row b",
            "row a row", "row -a", "row --", "row A", "row a1", "row 0", "row a.", "Row a", "ROW a", "rows a", "row\na",
            "row a\n", "\nrow a", "either row a", "either row a ", "either row a row b row c", "then row a", "both again",
            "not row", "not a", "not not", "not not row", "not  row a", "either row a not", "either row a b",
            "either a row b", "(row a)", "row ''", "row", "or row a row b", "row a either", "- row a", "row {", "row `",
            "either then row a row b", "both row a row b again", HOUSE_TEXT, "row a\nrow b",
        ]:
            with self.assertRaises(NoText, msg=repr(text)):
                read_set(HOUSE, text)

    def test_so_written_but_none(self):
        for text in [
            "row d", "again xyz", "row abcab", "row aaaaa", "not row row", "either row a row d", "not " * 12 + "row a",
            "not " * 13 + "row a", "either row a " * 5 + "row a", "either row - " * 6 + "row -", "not " * 990 + "row a",
            "then row a " * 350 + "row b", "row " + "a" * 3990, "not " * 800 + "row d",
        ]:
            with self.assertRaises(NoSet, msg=repr(text)):
                read_set(HOUSE, text)

    def test_just_within(self):
        self.assertIs(is_set(HOUSE, read_set(HOUSE, "not " * 11 + "row a")), True)
        self.assertIs(is_set(HOUSE, read_set(HOUSE, "either row a " * 4 + "again abca")), True)

    def test_no_text_is_ahead_of_no_set(self):
        for text in ["either row d row A", "row abcab row a", "not " * 900 + "row", "then row d", "row d "]:
            with self.assertRaises(NoText, msg=repr(text)):
                read_set(HOUSE, text)

    def test_refusals_in_order(self):
        for house in NO_HOUSES + ODD_THINGS:
            for text in ["row a", "row", None]:
                with self.assertRaises(NoHouse, msg=repr(house)):
                    read_set(house, text)
            for one in [("row", "a"), None]:
                with self.assertRaises(NoHouse, msg=repr(house)):
                    show_set(house, one)
        for thing in NO_SETS + ODD_THINGS:
            with self.assertRaises(NoSet, msg=repr(thing)):
                show_set(HOUSE, thing)

    def test_a_row_that_falls_is_still_a_set(self):
        self.assertEqual(read_set(HOUSE, "again ab"), ("again", "ab"))
        self.assertEqual(show_set(HOUSE, ("again", "ab")), "again ab")


class TestStays(unittest.TestCase):
    def test_what_is_handed_in_stays(self):
        house, machine, one = copy.deepcopy((HOUSE, MACHINE, SETS[-1]))
        show_house(house)
        show_machine(house, machine)
        show_set(house, one)
        read_machine(house, MACHINE_TEXT)
        read_set(house, "row a")
        for text, refusal in [(["row", "a"], NoText), ("row d", NoSet)]:
            with self.assertRaises(refusal):
                read_set(house, text)
        self.assertEqual((house, machine, one), (HOUSE, MACHINE, SETS[-1]))
