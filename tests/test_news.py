import copy
import itertools
import random
import unittest

from handsapart.errors import NoHand, NoHouse, NoRow
from handsapart.news import newer, news_behind, no_news, stock
from tests.reckoned import Reckoned
from tests.samples import (
    ALL_FREE, BIG, GOSSIP, HOUSE, IDLE_HAND, LINE, NEWS_HOUSES, NO_HANDS, NO_HOUSES, NO_LETTERS, NONE_FREE, ODD_THINGS,
    RING, THREE, WIDE, letters, random_row, random_rows, rows_up_to, shuffled,
)


def told_along(house, row):
    """For each size the news of all hands, by what is told alone; and the deeds' names."""
    news = [no_news(house)] * house[0]
    along = [news]
    names = []
    for letter in row:
        hands = dict(house[1])[letter]
        name, behind = news_behind(house, letter, [news[hand] for hand in hands])
        names.append(name)
        news = [behind if hand in hands else news[hand] for hand in range(house[0])]
        along.append(news)
    return along, names


class NewsCase(unittest.TestCase):
    def check_names_and_news(self, house, row):
        reckoned = Reckoned(house, row)
        along, names = told_along(house, row)
        self.assertEqual(names, reckoned.names, (house, row))
        for size, news in enumerate(along):
            for hand in range(house[0]):
                self.assertEqual(news[hand], reckoned.news(hand, size), (house, row, size, hand))

    def check_use(self, house, row):
        reckoned = Reckoned(house, row)
        along, names = told_along(house, row)
        for letter, number in names:
            self.assertIs(type(number), int)
            self.assertTrue(0 <= number < stock(house, letter))
        for size in range(len(row) + 1):
            used = reckoned.in_use(size)
            self.assertEqual(len({names[deed] for deed in used}), len(used), (house, row, size))

    def check_newer(self, house, row):
        reckoned = Reckoned(house, row)
        along, names = told_along(house, row)
        for size, news in enumerate(along):
            for one, other, hand in itertools.product(range(house[0]), repeat=3):
                deeds = [reckoned.first(who, size, hand) for who in (one, other)]
                deeds = [-1 if deed is None else deed for deed in deeds]
                due = (deeds[0] > deeds[1]) - (deeds[0] < deeds[1])
                told = newer(house, news[one], news[other], hand)
                self.assertIs(type(told), int)
                self.assertEqual(told, due, (house, row, size, one, other, hand))

    def check(self, house, row):
        self.check_names_and_news(house, row)
        self.check_use(house, row)
        self.check_newer(house, row)


class TestNoNews(unittest.TestCase):
    def test_no_news(self):
        self.assertEqual(no_news(HOUSE), (((None, None), (None, None)), ((None, None), (None, None))))
        for house in NEWS_HOUSES:
            hands = house[0]
            self.assertEqual(no_news(house), (((None,) * hands,) * hands,) * hands)


class TestStock(unittest.TestCase):
    def test_stocks(self):
        self.assertEqual([stock(HOUSE, letter) for letter in "abc"], [9, 9, 17])
        self.assertEqual([stock(WIDE, letter) for letter in "acdmyz"], [65, 129, 65, 257, 65, 129])
        self.assertEqual([stock(NONE_FREE, letter) for letter in "abcd"], [28, 55, 55, 82])


class TestNewsBehind(NewsCase):
    def test_first_deeds(self):
        none = no_news(HOUSE)
        news = (((("a", 0), None), (None, None)), ((None, None), (None, None)))
        self.assertEqual(news_behind(HOUSE, "a", [none]), (("a", 0), news))
        name, news = news_behind(HOUSE, "c", [none, none])
        self.assertEqual((name, news), (("c", 0), (((("c", 0),) * 2,) * 2,) * 2))

    def test_some_deeds(self):
        along, names = told_along(HOUSE, "acbaca")
        self.assertEqual(names, [("a", 0), ("c", 0), ("b", 0), ("a", 0), ("c", 1), ("a", 0)])
        self.assertEqual(told_along(HOUSE, "aaaa")[1], [("a", 0), ("a", 1), ("a", 0), ("a", 1)])
        # Behind "ac" both hands did c last, and each knows that the other did.
        self.assertEqual(along[2][0], along[2][1])
        self.assertEqual(along[2][0], (((("c", 0), ("c", 0)),) * 2,) * 2)
        # Behind "acb" hand 0 knows nothing of b.
        self.assertEqual(along[3][0], along[2][0])
        self.assertEqual(along[3][1][1][1], (("c", 0), ("b", 0)))

    def test_a_name_in_use_only_far_away_is_passed_by(self):
        # Hand 3 heard of the first a by c, and hears nothing behind it: as long as that lasts, no other a has its name.
        row = "abc" + "aaaaaa"
        names = told_along(GOSSIP, row)[1]
        self.assertEqual(names[0], ("a", 0))
        self.assertNotIn(("a", 0), names[1:])
        self.check(GOSSIP, row)

    def test_all_short_rows(self):
        for house, length in [(HOUSE, 5), (THREE, 4), (RING, 4), (GOSSIP, 3), (LINE, 3), (IDLE_HAND, 4)]:
            for row in rows_up_to(house, length):
                self.check_names_and_news(house, row)

    def test_drawn_rows(self):
        for house in NEWS_HOUSES:
            for row in random_rows(house, 4, 12) + random_rows(house, 3, 40):
                self.check_names_and_news(house, row)

    def test_long_rows(self):
        for house in NEWS_HOUSES:
            for row in random_rows(house, 1, 160):
                self.check_names_and_news(house, row)

    def test_drawn_houses(self):
        chance = random.Random(22)
        for i in range(40):
            hands = chance.choice([2, 3, 4])
            own = [sorted(chance.sample(range(hands), chance.randint(1, min(hands, 3)))) for letter in "abcdef"]
            house = (hands, list(zip("abcdef", own))[:chance.randint(2, 6)])
            self.check(house, random_row(chance, house, 30))

    def test_numbers_above_the_least_come_up(self):
        numbers = {}
        for house in [HOUSE, THREE, GOSSIP]:
            for row in random_rows(house, 8, 120):
                for letter, number in told_along(house, row)[1]:
                    numbers[house[0]] = max(number, numbers.get(house[0], 0))
        self.assertGreaterEqual(numbers[2], 1)
        self.assertGreaterEqual(numbers[3], 2)
        self.assertGreaterEqual(numbers[4], 3)

    def test_all_rows_of_a_heap_lead_each_hand_to_the_same_news(self):
        chance = random.Random(23)
        for house in NEWS_HOUSES:
            for row in random_rows(house, 3, 30):
                other = shuffled(chance, house, row, 200)
                self.assertEqual(told_along(house, row)[0][-1], told_along(house, other)[0][-1])

    def test_hangs_on_the_news_of_the_letters_hands_alone(self):
        # Behind unlike rows of which these hands see the same past, they are told the same.
        along = told_along(GOSSIP, "aab")[0][-1]
        other = told_along(GOSSIP, "aabcc")[0][-1]
        self.assertEqual(along[0], other[0])
        self.assertEqual(along[1], other[1])
        self.assertNotEqual(along[2], other[2])
        told = news_behind(GOSSIP, "a", [along[0], along[1]])
        self.assertEqual(told, news_behind(GOSSIP, "a", [other[0], other[1]]))

    def test_kinds(self):
        name, news = news_behind(WIDE, "c", [no_news(WIDE)] * 2)
        self.assertEqual((type(name), type(name[0]), type(name[1])), (tuple, str, int))
        for thing in [news, news[0], news[1][2]]:
            self.assertIs(type(thing), tuple)
            self.assertEqual(len(thing), 4)

    def test_hands_in_order(self):
        # Only hand 2 has news of hand 3, only hand 1 of hand 0: whichever stands first, both come together.
        along, names = told_along(LINE, "bd")
        name, news = news_behind(LINE, "c", [along[-1][1], along[-1][2]])
        firsts = tuple(news[hand][hand][hand] for hand in range(4))
        self.assertEqual(firsts, (("b", 0), ("c", 0), ("c", 0), ("d", 0)))


class TestUse(NewsCase):
    def test_no_two_deeds_in_use_have_one_name(self):
        for house in NEWS_HOUSES:
            for row in random_rows(house, 3, 40) + random_rows(house, 1, 120):
                self.check_use(house, row)

    def test_all_short_rows(self):
        for house, length in [(HOUSE, 5), (RING, 4), (GOSSIP, 3)]:
            for row in rows_up_to(house, length):
                self.check_use(house, row)


class TestNewer(NewsCase):
    def test_some_rows(self):
        news = told_along(HOUSE, "ca")[0][-1]
        self.assertEqual(newer(HOUSE, news[0], news[1], 0), 1)
        self.assertEqual(newer(HOUSE, news[1], news[0], 0), -1)
        self.assertEqual(newer(HOUSE, news[0], news[1], 1), 0)

    def test_none_and_none(self):
        for house in NEWS_HOUSES:
            for hand in range(house[0]):
                self.assertEqual(newer(house, no_news(house), no_news(house), hand), 0)
        news = told_along(LINE, "ac")[0][-1]
        self.assertEqual(newer(LINE, news[0], news[1], 3), 0)

    def test_none_against_a_deed(self):
        news = told_along(HOUSE, "a")[0][-1]
        self.assertEqual(newer(HOUSE, news[0], news[1], 0), 1)
        self.assertEqual(newer(HOUSE, news[1], news[0], 0), -1)
        self.assertEqual(newer(HOUSE, news[0], news[1], 1), 0)
        news = told_along(HOUSE, "ab")[0][-1]
        self.assertEqual(newer(HOUSE, news[0], news[1], 0), 1)
        self.assertEqual(newer(HOUSE, news[0], news[1], 1), -1)

    def test_the_same_hands_news_twice(self):
        for house in NEWS_HOUSES:
            for row in random_rows(house, 2, 20):
                for news in told_along(house, row)[0][-1]:
                    for hand in range(house[0]):
                        self.assertEqual(newer(house, news, news, hand), 0)

    def test_third_hands_that_were_met_one_behind_the_other(self):
        # Hand 0 met hand 1 early, hand 2 met it late: 2 has the newer news of 1, whether they met or not.
        news = told_along(LINE, "bccb" + "c")[0][-1]
        self.assertEqual(newer(LINE, news[0], news[2], 1), -1)
        self.assertEqual(newer(LINE, news[2], news[0], 1), 1)
        news = told_along(ALL_FREE, "abcd")[0][-1]
        self.assertEqual(newer(ALL_FREE, news[0], news[2], 1), 0)

    def test_all_short_rows(self):
        for house, length in [(HOUSE, 5), (THREE, 4), (RING, 4), (GOSSIP, 3), (LINE, 3)]:
            for row in rows_up_to(house, length):
                self.check_newer(house, row)

    def test_drawn_rows(self):
        for house in NEWS_HOUSES:
            for row in random_rows(house, 2, 12) + random_rows(house, 2, 40) + random_rows(house, 1, 120):
                self.check_newer(house, row)


class TestRefusals(unittest.TestCase):
    def test_no_house_is_first(self):
        news = no_news(HOUSE)
        for house in NO_HOUSES + ODD_THINGS:
            asks = [
                lambda: no_news(house), lambda: stock(house, "a"), lambda: stock(house, None),
                lambda: news_behind(house, "a", [news]), lambda: news_behind(house, None, [news]),
                lambda: newer(house, news, news, 0), lambda: newer(house, news, news, None),
            ]
            for ask in asks:
                with self.assertRaises(NoHouse, msg=repr(house)):
                    ask()

    def test_no_letter(self):
        for letter in NO_LETTERS + ODD_THINGS:
            with self.assertRaises(NoRow, msg=repr(letter)):
                stock(HOUSE, letter)
            with self.assertRaises(NoRow, msg=repr(letter)):
                news_behind(HOUSE, letter, [no_news(HOUSE)])

    def test_no_hand(self):
        news = told_along(HOUSE, "abc")[0][-1]
        for hand in NO_HANDS:
            with self.assertRaises(NoHand, msg=repr(hand)):
                newer(HOUSE, news[0], news[1], hand)

    def test_numbers_just_beyond(self):
        for house in NEWS_HOUSES:
            none = no_news(house)
            self.assertEqual(newer(house, none, none, house[0] - 1), 0)
            for hand in [-1, house[0], -house[0], BIG, True, False]:
                with self.assertRaises(NoHand):
                    newer(house, none, none, hand)

    def test_what_is_handed_in_stays(self):
        house = copy.deepcopy(GOSSIP)
        for row in random_rows(GOSSIP, 3, 20):
            news = told_along(GOSSIP, row)[0][-1]
            for letter in letters(GOSSIP):
                given = [news[hand] for hand in dict(GOSSIP[1])[letter]]
                kept = copy.deepcopy(given)
                told = news_behind(house, letter, given)
                self.assertEqual(given, kept)
                given.clear()
                self.assertEqual(told, news_behind(house, letter, kept))
            kept = copy.deepcopy(news)
            newer(house, news[0], news[3], 2)
            self.assertEqual(news, kept)
        with self.assertRaises(NoRow):
            news_behind(house, ["a"], [no_news(house)])
        self.assertEqual(house, GOSSIP)

    def test_a_changed_house_answers_anew(self):
        house = copy.deepcopy(HOUSE)
        self.assertEqual(stock(house, "a"), 9)
        house[1][0][1].append(1)
        self.assertEqual(stock(house, "a"), 17)
        self.assertEqual(news_behind(house, "a", [no_news(house)] * 2)[1], (((("a", 0),) * 2,) * 2,) * 2)
