"""[10]: the module signed."""

import unittest
from itertools import product

from fourread import signed
from fourread.errors import InvalidNumber, InvalidWord, Undefined
from fourread.shares import Share
from fourread.signed import signed_sum, signed_sums, table_from
from fourread.tables import Table, distance, sum_table
from fourread.words import added, all_words, product_of
from tests.support import Case, NO_INTEGERS, NO_WORDS, dice_for, random_table, random_word, some_tables


def all_tables(n):
    return [Table(n, bits) for bits in product((0, 1), repeat=2 ** n)]


def sum_by_definition(table, word):
    agreed = [bit == product_of(word, other) for bit, other in zip(table.bits, all_words(table.n))]
    return agreed.count(True) - agreed.count(False)


class InterfaceTest(Case):
    def test_names(self):
        self.assert_interface(signed, {
            "signed_sum": ["table", "word"], "signed_sums": ["table"], "table_from": ["n", "numbers"],
        })

    def test_arguments_by_name(self):
        table = Table(2, (0, 1, 1, 1))
        self.assert_exactly(signed_sum(word=(1, 1), table=table), 2)
        self.assert_exactly(signed_sums(table=table), (-2, 2, 2, 2))
        self.assert_bits(table_from(numbers=(-2, 2, 2, 2), n=2), 2, (0, 1, 1, 1))


class SignedSumsTest(Case):
    def test_all_small_tables(self):
        for n in (1, 2, 3):
            for table in all_tables(n):
                self.assert_sums(table)

    def test_greater_tables(self):
        dice = dice_for("signed_sums")
        for n in range(4, 8):
            for table in some_tables(dice, n):
                self.assert_sums(table)

    def test_greatest_tables(self):
        dice = dice_for("signed_sum")
        for n in range(8, 11):
            for table in some_tables(dice, n)[::3]:
                numbers = signed_sums(table)
                self.assertEqual(len(numbers), 2 ** n)
                for number, word in list(enumerate(all_words(n)))[::73]:
                    wanted = sum_by_definition(table, word)
                    self.assert_exactly((signed_sum(table, word), numbers[number]), (wanted, wanted))

    def test_examples(self):
        self.assert_exactly(signed_sums(Table(1, (0, 0))), (2, 0))
        self.assert_exactly(signed_sums(Table(1, (1, 1))), (-2, 0))
        self.assert_exactly(signed_sums(Table(1, (0, 1))), (0, 2))
        self.assert_exactly(signed_sums(Table(2, (0, 0, 1, 0))), (2, -2, 2, 2))
        self.assert_exactly(signed_sum(Table(2, (0, 0, 1, 0)), (0, 1)), -2)

    def test_wrong_words(self):
        for n in range(1, 11):
            table = Table(n, (0, 1) * 2 ** (n - 1))
            for value in [*NO_WORDS, *[(0,) * length for length in range(1, 13) if length != n]]:
                self.assert_raises(InvalidWord, {"value": value}, signed_sum, table, value)

    def assert_sums(self, table):
        wanted = tuple(sum_by_definition(table, word) for word in all_words(table.n))
        self.assert_exactly(signed_sums(table), wanted)
        self.assert_exactly(tuple(signed_sum(table, word) for word in all_words(table.n)), wanted)


class TableFromTest(Case):
    def test_back_and_forth_with_all_small_tables(self):
        for n in (1, 2, 3):
            for table in all_tables(n):
                self.assert_back(table)

    def test_back_and_forth_with_greater_tables(self):
        dice = dice_for("table_from")
        for n in range(4, 11):
            for table in some_tables(dice, n):
                self.assert_back(table)

    def test_all_small_numbers(self):
        for n, most in ((1, 5), (2, 5)):
            known = {signed_sums(table): table for table in all_tables(n)}
            for numbers in product(range(-most, most + 1), repeat=2 ** n):
                if numbers in known:
                    self.assert_exactly(table_from(n, numbers) == known[numbers], True)
                else:
                    self.assert_raises(Undefined, {"what": "table"}, table_from, n, numbers)

    def test_numbers_near_signed_sums(self):
        dice = dice_for("no signed sums")
        for n in range(3, 11):
            right = list(signed_sums(random_table(dice, n)))
            for place in (0, 1, 2 ** n - 1):
                for step in (1, -1, 2, -2, 2 ** n, 10 ** 30):
                    self.assert_no_table(n, right[:place] + [right[place] + step] + right[place + 1:])
            self.assert_no_table(n, [2 * number for number in right])
            self.assert_no_table(n, [3 * number for number in right])
            self.assert_no_table(n, [0] * 2 ** n)
            self.assert_no_table(n, [1] * 2 ** n)

    def test_squares_that_add_up_are_not_enough(self):
        self.assert_no_table(2, [2, 2, 2, 2])
        self.assert_no_table(2, [2, 2, -2, -2])
        self.assert_no_table(4, [4] * 16)

    def test_wrong_lengths(self):
        for n in range(1, 11):
            right = list(signed_sums(Table(n, (0,) * 2 ** n)))
            for numbers in (right[:-1], right + [0], right + right, right[:2 ** (n - 1)], right[:1], []):
                self.assert_no_table(n, numbers)

    def test_numbers_of_a_table_of_another_size(self):
        for n in range(1, 11):
            for size in range(1, 11):
                if n != size:
                    self.assert_no_table(n, list(signed_sums(Table(size, (0,) * 2 ** size))))

    def test_values_that_are_no_integers(self):
        for wrong in NO_INTEGERS:
            self.assert_no_table(1, [2, wrong])
            self.assert_no_table(1, [wrong, 2])
            self.assert_no_table(2, [4, 0, 0, wrong])
            self.assert_no_table(2, [wrong] * 4)

    def test_no_sequences(self):
        others = [None, True, False, 0, 2, "", "20", "word", Share(1, 2), Table(1, (0, 1)), Table(2, (0, 0, 0, 0))]
        for value in others:
            for n in (1, 2):
                self.assert_raises(Undefined, {"what": "table"}, table_from, n, value)

    def test_a_list_stays(self):
        numbers = [0, 2]
        self.assert_bits(table_from(1, numbers), 1, (0, 1))
        self.assert_exactly(numbers, [0, 2])

    def test_wrong_sizes_come_first(self):
        for n in [0, 11, -1, 12, 2 ** 70, *NO_INTEGERS]:
            for numbers in ((2, 0), [1], (1,), (), None, "word", [0] * 2 ** 11):
                self.assert_raises(InvalidNumber, {"value": n}, table_from, n, numbers)

    def assert_back(self, table):
        numbers = signed_sums(table)
        self.assert_bits(table_from(table.n, numbers), table.n, table.bits)
        self.assert_bits(table_from(table.n, list(numbers)), table.n, table.bits)

    def assert_no_table(self, n, numbers):
        self.assert_raises(Undefined, {"what": "table"}, table_from, n, numbers)
        self.assert_raises(Undefined, {"what": "table"}, table_from, n, tuple(numbers))


class BoldTest(Case):
    def test_squares_add_up(self):
        for table in self.tables():
            self.assertEqual(sum(number ** 2 for number in signed_sums(table)), len(table) ** 2)

    def test_distance_to_a_sum(self):
        for table in self.tables():
            numbers = signed_sums(table)
            for number, word in list(enumerate(all_words(table.n)))[::7]:
                self.assertEqual(2 * distance(table, sum_table(word)), len(table) - numbers[number])

    def test_signed_sums_of_a_table_with_a_sum_added(self):
        dice = dice_for("moved")
        for table in self.tables():
            known = dict(zip(all_words(table.n), signed_sums(table)))
            for moved in ((0,) * table.n, (1,) * table.n, random_word(dice, table.n)):
                wanted = tuple(known[added(word, moved)] for word in all_words(table.n))
                self.assert_exactly(signed_sums(table + sum_table(moved)), wanted)

    def tables(self):
        dice = dice_for("bold")
        return all_tables(1) + all_tables(2) + [table for n in range(3, 11) for table in some_tables(dice, n)[::2]]


if __name__ == "__main__":
    unittest.main()
