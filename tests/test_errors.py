import unittest

from handsapart import errors

PLAIN = [
    "NoHouse", "NoRow", "NoMachine", "NoRoom", "NoHand", "Unlike", "NoPast", "TooMany", "NoTable", "NoSet", "Whole",
    "NoText", "NoWord",
]


class TestErrors(unittest.TestCase):
    def test_base_is_straight_under_value_error(self):
        self.assertEqual(errors.HandError.__bases__, (ValueError,))

    def test_each_refusal_is_straight_under_the_base(self):
        for name in PLAIN + ["Torn", "Falls"]:
            with self.subTest(name):
                self.assertEqual(getattr(errors, name).__bases__, (errors.HandError,))

    def test_the_refusals_are_fifteen_of_their_own(self):
        kinds = [getattr(errors, name) for name in PLAIN + ["Torn", "Falls"]]
        self.assertEqual(len(set(kinds)), 15)
        self.assertEqual(set(kinds), set(errors.HandError.__subclasses__()))

    def test_plain_refusals_can_be_raised_with_words_or_without(self):
        for name in PLAIN:
            with self.subTest(name):
                kind = getattr(errors, name)
                with self.assertRaises(ValueError):
                    raise kind()
                with self.assertRaises(errors.HandError):
                    raise kind("some words")

    def test_torn_has_row_and_place(self):
        for row, place in [("ab", 0), ("cab", 1)]:
            error = errors.Torn(row, place)
            self.assertEqual((error.row, error.place), (row, place))
        with self.assertRaises(errors.HandError) as caught:
            raise errors.Torn("abba", 2)
        self.assertEqual((caught.exception.row, caught.exception.place), ("abba", 2))

    def test_torn_takes_its_fields_by_name(self):
        error = errors.Torn(place=1, row="cab")
        self.assertEqual((error.row, error.place), ("cab", 1))

    def test_falls_has_row(self):
        for row in ["ab", "cab"]:
            self.assertEqual(errors.Falls(row).row, row)
        with self.assertRaises(errors.HandError) as caught:
            raise errors.Falls(row="ab")
        self.assertEqual(caught.exception.row, "ab")

    def test_torn_and_falls_need_their_fields(self):
        for make in [lambda: errors.Torn(), lambda: errors.Torn("ab"), lambda: errors.Falls()]:
            with self.assertRaises(TypeError):
                make()
