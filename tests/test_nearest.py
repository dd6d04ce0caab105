"""[11]: the module nearest."""

import unittest
from itertools import product

from fourread import nearest
from fourread.errors import InvalidShare, InvalidWord
from fourread.nearest import beginning_weight, least_distance, near_sums, nearest_sums
from fourread.shares import Share
from fourread.signed import signed_sums
from fourread.tables import Table, distance, sum_table
from fourread.words import all_words
from tests.support import Case, NO_INTEGERS, NO_WORDS, OBJECTS, dice_for, some_tables


def tables_to(n):
    """All tables of 1 and 2, some of the others up to n."""
    dice = dice_for("nearest")
    found = [Table(size, bits) for size in (1, 2) for bits in product((0, 1), repeat=2 ** size)]
    return found + [table for size in range(3, n + 1) for table in some_tables(dice, size)]


def shares_about(table):
    """Shares at, just above and just below the signed sums of a table."""
    many = len(table)
    found = [(1, 1), (1, 2), (1, 3), (99, 100), (1, 10 ** 30), (10 ** 30 - 1, 10 ** 30)]
    for number in sorted(set(signed_sums(table))):
        for over in (100 * number - 1, 100 * number, 100 * number + 1):
            if 0 < over <= 100 * many:
                found.append((over, 100 * many))
    return [Share(over, under) for over, under in found]


class InterfaceTest(Case):
    def test_names(self):
        self.assert_interface(nearest, {
            "least_distance": ["table"], "nearest_sums": ["table"], "near_sums": ["table", "share"],
            "beginning_weight": ["table", "beginning"],
        })

    def test_arguments_by_name(self):
        table = Table(2, (0, 1, 1, 1))
        self.assert_exactly(least_distance(table=table), 1)
        self.assert_exactly(nearest_sums(table=table), ((0, 1), (1, 0), (1, 1)))
        self.assert_exactly(near_sums(share=Share(1, 2), table=table), ((0, 1), (1, 0), (1, 1)))
        self.assert_exactly(beginning_weight(beginning=(1,), table=table), 8)


class NearestTest(Case):
    def test_by_all_distances(self):
        for table in tables_to(7):
            distances = {word: distance(table, sum_table(word)) for word in all_words(table.n)}
            least = min(distances.values())
            self.assert_exactly(least_distance(table), least)
            self.assert_exactly(nearest_sums(table), tuple(word for word in distances if distances[word] == least))

    def test_sums_and_their_neighbours(self):
        for n in range(1, 11):
            for word in all_words(n)[::37]:
                table = sum_table(word)
                self.assert_exactly((least_distance(table), nearest_sums(table)), (0, (word,)))
                if n > 2:
                    table = Table(n, (1,) + table.bits[1:])
                    self.assert_exactly((least_distance(table), nearest_sums(table)), (1, (word,)))

    def test_examples(self):
        self.assert_exactly((least_distance(Table(1, (1, 1))), nearest_sums(Table(1, (1, 1)))), (1, ((1,),)))
        self.assert_exactly(nearest_sums(Table(1, (1, 0))), ((0,),))
        self.assert_exactly(least_distance(Table(2, (1, 1, 1, 1))), 2)
        self.assert_exactly(nearest_sums(Table(2, (1, 1, 1, 1))), ((0, 1), (1, 0), (1, 1)))
        self.assert_exactly(nearest_sums(Table(2, (0, 0, 0, 1))), ((0, 0), (0, 1), (1, 0)))


class NearSumsTest(Case):
    def test_at_and_beside_signed_sums(self):
        for table in tables_to(5):
            numbers = dict(zip(all_words(table.n), signed_sums(table)))
            for share in shares_about(table):
                least = share.over * len(table)
                wanted = tuple(word for word in numbers if numbers[word] * share.under >= least)
                self.assert_exactly(near_sums(table, share), wanted)

    def test_examples(self):
        table = Table(3, (0, 1, 1, 0, 1, 0, 0, 0))
        all_but_negative = ((0, 0, 0), (0, 1, 1), (1, 0, 1), (1, 1, 0), (1, 1, 1))
        self.assert_exactly(near_sums(table, Share(1, 4)), all_but_negative)
        self.assert_exactly(near_sums(table, Share(26, 100)), ((1, 1, 1),))
        self.assert_exactly(near_sums(table, Share(3, 4)), ((1, 1, 1),))
        self.assert_exactly(near_sums(table, Share(76, 100)), ())
        self.assert_exactly(near_sums(table, Share(1, 1)), ())

    def test_share_1_has_sums_alone(self):
        for table in tables_to(6):
            wanted = nearest_sums(table) if least_distance(table) == 0 else ()
            self.assert_exactly(near_sums(table, Share(1, 1)), wanted)

    def test_greatest_tables(self):
        table = sum_table((1, 0) * 5)
        for share in (Share(1, 1), Share(1, 1000), Share(1, 10 ** 59)):
            self.assert_exactly(near_sums(table, share), ((1, 0) * 5,))

    def test_shares_out_of_range(self):
        outside = [(0, 1), (-1, 2), (-1, 1), (-1, 10 ** 30), (2, 1), (3, 2), (101, 100), (10 ** 30 + 1, 10 ** 30)]
        for table in tables_to(3):
            for share in [Share(over, under) for over, under in outside]:
                self.assert_raises(InvalidShare, {"value": share}, near_sums, table, share)

    def test_values_that_are_no_shares(self):
        others = [value for value in OBJECTS if not isinstance(value, Share)]
        values = [value for value in NO_INTEGERS + NO_WORDS if not isinstance(value, Share)]
        for value in [0, 1, -1, 2, (1, 2), [1, 2], "Share(1, 2)", "1/2", *others, *values]:
            self.assert_raises(InvalidShare, {"value": value}, near_sums, Table(2, (0, 1, 1, 1)), value)


class BeginningWeightTest(Case):
    def test_all_beginnings(self):
        for table in tables_to(5):
            for length in range(table.n + 1):
                for beginning in product((0, 1), repeat=length):
                    self.assert_weight(table, beginning)

    def test_greater_tables(self):
        dice = dice_for("beginning_weight")
        for n in range(6, 11):
            for table in some_tables(dice, n)[::4]:
                for length in range(n + 1):
                    for beginning in ((0,) * length, (1,) * length, (1, 0) * (length // 2)):
                        self.assert_weight(table, beginning)

    def test_the_empty_beginning_has_all(self):
        for table in tables_to(8):
            self.assert_exactly(beginning_weight(table, ()), len(table) ** 2)

    def test_wrong_beginnings(self):
        for n in range(1, 11):
            table = Table(n, (0, 1) * 2 ** (n - 1))
            longer = [(0,) * length for length in range(n + 1, 14)]
            for value in [*NO_WORDS, *longer, *[list(word) for word in longer], [0] * n]:
                if value != ():
                    self.assert_raises(InvalidWord, {"value": value}, beginning_weight, table, value)

    def assert_weight(self, table, beginning):
        pairs = zip(all_words(table.n), signed_sums(table))
        wanted = sum(number ** 2 for word, number in pairs if word[:len(beginning)] == beginning)
        self.assert_exactly(beginning_weight(table, beginning), wanted)


class BoldTest(Case):
    def test_there_are_few_near_sums(self):
        for table in tables_to(6):
            for share in shares_about(table):
                self.assertLessEqual(len(near_sums(table, share)) * share.over ** 2, share.under ** 2)

    def test_few_beginnings_are_heavy(self):
        for table in tables_to(5):
            for length in range(table.n + 1):
                weights = [beginning_weight(table, word) for word in product((0, 1), repeat=length)]
                for share in shares_about(table):
                    least = (share.over * len(table)) ** 2
                    heavy = [weight for weight in weights if weight * share.under ** 2 >= least]
                    self.assertLessEqual(len(heavy) * share.over ** 2, share.under ** 2)


if __name__ == "__main__":
    unittest.main()
