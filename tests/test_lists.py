"""[26]: the module lists."""

import unittest
from itertools import combinations, product

from fourread import lists
from fourread.errors import InvalidList, InvalidNumber
from fourread.lists import is_good, least_left_out, refused_places, way_to
from fourread.shares import Share
from fourread.systems import System
from fourread.tables import Table
from tests.support import Case, NO_INTEGERS, OBJECTS, dice_for, nested

NO_LISTS = [
    None, True, False, 0, 1, "", "1", "0123", (), [], [True], (False,), [1, True, 2], (0, 0, False), [None], ["1"],
    "1,2", [1, "2"], [[1]], [(1,)], ((1, 2),), [1, 2, None], (1, 2, [3]), [0] * 41, (0,) * 41, list(range(41)),
    [1] * 100, [True] * 40, [0] * 39 + [True], (None,) + (0,) * 39, [Share(1, 1)], nested(1, 10), *OBJECTS,
]


def way_by_words(length, place):
    """The middles of the search, by the document's words."""
    low, high, found = 0, length - 1, []
    while True:
        middle = (low + high) // 2
        found.append(middle)
        if middle == place:
            return tuple(found)
        low, high = (middle + 1, high) if place > middle else (low, middle - 1)


def good_by_words(numbers, place):
    way = way_by_words(len(numbers), place)
    lower = [numbers[middle] > numbers[place] for middle in way if middle < place]
    higher = [numbers[middle] < numbers[place] for middle in way if middle > place]
    return not any(lower + higher)


def in_order(numbers):
    return list(numbers) == sorted(numbers)


def left_out_by_trying(numbers):
    """How few can be left out so that the rest is in order, by trying which to keep."""
    many = len(numbers)
    for kept in range(many, 0, -1):
        if any(map(in_order, combinations(numbers, kept))):
            return many - kept


def some_lists(dice):
    """Lists of up to 40 integers: mixed, nearly in order, with equal ones, with long ones."""
    found = []
    for many in (1, 2, 3, 5, 8, 16, 31, 39, 40):
        found.append([dice.randrange(-9, 10) for _ in range(many)])
        found.append([dice.randrange(3) for _ in range(many)])
        found.append([dice.randrange(-10 ** 20 + 1, 10 ** 20) for _ in range(many)])
        found.append(list(range(many)))
        found.append(list(range(many, 0, -1)))
        found.append([7] * many)
        nearly = list(range(10 ** 19, 10 ** 19 + many))
        for _ in range(3):
            nearly[dice.randrange(many)] = 10 ** 19 + dice.randrange(many)
        found.append(nearly)
    return found


class InterfaceTest(Case):
    def test_names(self):
        self.assert_interface(lists, {
            "way_to": ["length", "place"], "is_good": ["numbers", "place"], "refused_places": ["numbers"],
            "least_left_out": ["numbers"],
        })

    def test_arguments_by_name(self):
        self.assert_exactly(way_to(place=0, length=3), (1, 0))
        self.assert_exactly(is_good(place=0, numbers=[2, 1, 3]), False)
        self.assert_exactly(refused_places(numbers=[2, 1, 3]), (0,))
        self.assert_exactly(least_left_out(numbers=[2, 1, 3]), 1)


class WayTest(Case):
    def test_all_lengths_and_places(self):
        for length in range(1, 41):
            for place in range(length):
                self.assert_exactly(way_to(length, place), way_by_words(length, place))

    def test_examples(self):
        self.assert_exactly(way_to(1, 0), (0,))
        self.assert_exactly((way_to(2, 0), way_to(2, 1)), ((0,), (0, 1)))
        self.assert_exactly(way_to(7, 4), (3, 5, 4))
        self.assert_exactly(way_to(40, 39), (19, 29, 34, 37, 38, 39))

    def test_wrong_lengths_come_first(self):
        for length in [0, 41, 42, -1, -40, 2 ** 70, *NO_INTEGERS]:
            for place in (0, -1, 40, None, True):
                self.assert_raises(InvalidNumber, {"value": length}, way_to, length, place)

    def test_wrong_places(self):
        for length in (1, 2, 7, 39, 40):
            for place in [-1, length, length + 1, -length, 41, 2 ** 70, *NO_INTEGERS]:
                self.assert_raises(InvalidNumber, {"value": place}, way_to, length, place)


class GoodTest(Case):
    def test_all_short_lists(self):
        for many in range(1, 6):
            for numbers in product(range(3), repeat=many):
                wanted = [good_by_words(numbers, place) for place in range(many)]
                self.assert_exactly([is_good(numbers, place) for place in range(many)], wanted)
                self.assert_exactly(refused_places(numbers), tuple(k for k in range(many) if not wanted[k]))

    def test_more_lists(self):
        for numbers in some_lists(dice_for("lists")):
            kept = list(numbers)
            for sequence in (numbers, tuple(numbers)):
                wanted = [good_by_words(kept, place) for place in range(len(kept))]
                self.assert_exactly([is_good(sequence, place) for place in range(len(kept))], wanted)
                self.assert_exactly(refused_places(sequence), tuple(k for k in range(len(kept)) if not wanted[k]))
            self.assert_exactly(numbers, kept)

    def test_examples(self):
        self.assert_exactly(refused_places([1]), ())
        self.assert_exactly(refused_places([1, 1, 1]), ())
        self.assert_exactly(refused_places((2, 1)), (1,))
        self.assert_exactly(refused_places([3, 2, 1]), (0, 2))
        self.assert_exactly(refused_places([5, 1, 2, 3, 4]), (0, 1))
        self.assert_exactly(refused_places([1, 2, 9, 3, 4]), (3, 4))

    def test_no_lists_come_first(self):
        for numbers in NO_LISTS:
            for place in (0, -1, 40, None, True):
                self.assert_raises(InvalidList, {"value": numbers}, is_good, numbers, place)
            for function in (refused_places, least_left_out):
                self.assert_raises(InvalidList, {"value": numbers}, function, numbers)

    def test_wrong_places(self):
        for many in (1, 2, 7, 40):
            for numbers in (list(range(many)), tuple(range(many, 0, -1))):
                for place in [-1, many, many + 1, -many, 41, 2 ** 70, *NO_INTEGERS]:
                    self.assert_raises(InvalidNumber, {"value": place}, is_good, numbers, place)


class LeftOutTest(Case):
    def test_all_short_lists(self):
        for many in range(1, 6):
            for numbers in product(range(4), repeat=many):
                self.assert_exactly(least_left_out(numbers), left_out_by_trying(numbers))

    def test_more_lists(self):
        dice = dice_for("left out")
        for many in (7, 9, 10):
            for _ in range(12):
                numbers = [dice.randrange(-6, 7) * 10 ** dice.choice((0, 19)) for _ in range(many)]
                self.assert_exactly(least_left_out(numbers), left_out_by_trying(numbers))
                self.assert_exactly(least_left_out(tuple(numbers)), left_out_by_trying(numbers))

    def test_the_list_that_was_passed_stays(self):
        for numbers in some_lists(dice_for("stays")):
            kept = list(numbers)
            least_left_out(numbers)
            refused_places(numbers)
            self.assert_exactly(numbers, kept)

    def test_lists_of_forty(self):
        self.assert_exactly(least_left_out(list(range(40))), 0)
        self.assert_exactly(least_left_out(list(range(40, 0, -1))), 39)
        self.assert_exactly(least_left_out([5] * 40), 0)
        self.assert_exactly(least_left_out([39] + list(range(39))), 1)
        self.assert_exactly(least_left_out([1, 0] * 20), 20)
        # Ten falling rows of four: one number of each can be kept.
        self.assert_exactly(least_left_out([4 * row - k for row in range(10) for k in range(4)]), 30)


class SentencesTest(Case):
    def test_all_sentences(self):
        short = [numbers for many in range(1, 6) for numbers in product(range(3), repeat=many)]
        for numbers in [*short, *some_lists(dice_for("sentences"))]:
            refused = refused_places(numbers)
            self.assertTrue(in_order([number for k, number in enumerate(numbers) if k not in refused]))
            self.assertLessEqual(least_left_out(numbers), len(refused))
            self.assert_exactly(refused == (), in_order(numbers))

    def test_other_values_are_no_lists(self):
        for value in (Table(1, (0, 1)), System(1, []), Share(1, 2), "123"):
            self.assert_raises(InvalidList, {"value": value}, refused_places, value)


if __name__ == "__main__":
    unittest.main()
