"""[9]: the module tables."""

import inspect
import unittest
from itertools import product

from fourread import tables
from fourread.errors import InvalidMatrix, InvalidNumber, InvalidTable, InvalidWord, Undefined
from fourread.matrices import rank_of, times
from fourread.shares import Share
from fourread.tables import Table, distance, fixed_table, sum_table, turned_table
from fourread.words import all_words, product_of
from tests.support import (
    Case, NO_INTEGERS, NO_MATRICES, NO_WORDS, OBJECTS, dice_for, random_matrix, random_table, random_word, unit_matrix,
)

NO_TABLE_SIZES = [0, 11, -1, -10, 12, 2 ** 70, *NO_INTEGERS]

# Values that are neither a table of 2 nor four bits.
NO_TABLES = [
    None, True, 0, 1, "", "0110", "word", (), [], (0, 1, 1, 0), [0, 1, 1, 0], ((0, 1, 1, 0),), Table(1, (0, 1)),
    Table(3, (0, 1) * 4), Share(0, 1), *[value for value in OBJECTS if not isinstance(value, Table)],
]

NO_BITS = [2, -1, 10 ** 20, True, False, None, "0", "1", (), (0,), [1], Share(1, 1), Table(1, (0, 1))]


def bits_of(table):
    return {word: table.bits[number] for number, word in enumerate(all_words(table.n))}


class InterfaceTest(Case):
    def test_names(self):
        self.assert_interface(tables, {
            "sum_table": ["word"], "distance": ["one", "other"], "turned_table": ["table", "matrix"],
            "fixed_table": ["table", "place", "bit"],
        })
        self.assertIs(vars(tables)["Table"], Table)
        self.assertEqual(Table.__module__, "fourread.tables")
        for name in ("__init__", "__len__", "__iter__", "__eq__", "__add__", "bit"):
            self.assertIn(name, vars(Table))
        self.assertEqual(list(inspect.signature(Table).parameters), ["n", "bits"])
        self.assertEqual(list(inspect.signature(Table.bit).parameters)[1:], ["word"])

    def test_arguments_by_name(self):
        table = Table(bits=(0, 1, 1, 1), n=2)
        self.assert_exactly((table.n, table.bits), (2, (0, 1, 1, 1)))
        self.assert_exactly(table.bit(word=(0, 1)), 1)
        self.assert_bits(sum_table(word=(1, 0)), 2, (0, 0, 1, 1))
        self.assert_exactly(distance(other=sum_table((1, 0)), one=table), 1)
        self.assert_bits(turned_table(matrix=((0, 1), (1, 1)), table=Table(2, (0, 1, 0, 0))), 2, (0, 0, 1, 0))
        self.assert_bits(fixed_table(bit=1, place=0, table=Table(2, (0, 0, 1, 0))), 1, (1, 0))


class TableTest(Case):
    def test_all_sizes_with_tuples_and_lists(self):
        dice = dice_for("tables")
        for n in range(1, 11):
            for bits in ((0,) * 2 ** n, (1,) * 2 ** n, random_word(dice, 2 ** n)):
                for table in (Table(n, bits), Table(n, list(bits))):
                    self.assert_bits(table, n, bits)
                    self.assert_exactly(len(table), 2 ** n)
                    self.assert_exactly([bit for bit in table], list(bits))
                    self.assert_exactly(tuple(table), bits)
                    self.assert_exactly(tuple(table), bits)

    def test_a_list_that_is_changed_afterwards(self):
        bits = [0, 1, 1, 0]
        table = Table(2, bits)
        self.assert_exactly(bits, [0, 1, 1, 0])
        bits[0] = 1
        bits.append(1)
        self.assert_bits(table, 2, (0, 1, 1, 0))
        self.assert_exactly((len(table), table.bit((0, 0)), list(table)), (4, 0, [0, 1, 1, 0]))

    def test_two_iterations_at_once(self):
        table = Table(1, (0, 1))
        self.assert_exactly([(one, other) for one in table for other in table], [(0, 0), (0, 1), (1, 0), (1, 1)])

    def test_wrong_sizes_come_first(self):
        for n in NO_TABLE_SIZES:
            for bits in ((0, 1), (0, 1, 1, 0), (0,) * 2 ** 11, None, (), [2]):
                self.assert_raises(InvalidNumber, {"value": n}, Table, n, bits)

    def test_wrong_numbers_of_bits(self):
        for n in range(1, 11):
            for many in (0, 1, 2 ** n - 1, 2 ** n + 1, 2 ** (n - 1), 2 ** (n + 1), n):
                for bits in ((0,) * many, [1] * many):
                    if many != 2 ** n:
                        self.assert_raises(InvalidTable, {"value": bits}, Table, n, bits)

    def test_wrong_bits(self):
        for n in (1, 2, 3):
            for place in range(2 ** n):
                for wrong in NO_BITS:
                    bits = (0,) * place + (wrong,) + (1,) * (2 ** n - place - 1)
                    for value in (bits, list(bits)):
                        self.assert_raises(InvalidTable, {"value": value}, Table, n, value)
        bits = (0,) * 1023 + (2,)
        self.assert_raises(InvalidTable, {"value": bits}, Table, 10, bits)

    def test_no_sequences(self):
        for value in [None, True, 0, 4, "", "01", "0110", Share(1, 2), Table(1, (0, 1)), Table(2, (0, 1, 1, 0))]:
            for n in (1, 2):
                self.assert_raises(InvalidTable, {"value": value}, Table, n, value)

    def test_the_error_keeps_the_list_itself(self):
        bits = [0, 1, 1]
        with self.assertRaises(InvalidTable) as caught:
            Table(2, bits)
        bits.append(0)
        self.assertIs(caught.exception.value, bits)


class BitTest(Case):
    def test_all_words(self):
        dice = dice_for("bit")
        for n in range(1, 11):
            table = random_table(dice, n)
            found = tuple(table.bit(word) for word in product((0, 1), repeat=n))
            self.assert_exactly(found, table.bits)

    def test_wrong_words(self):
        for n in range(1, 11):
            table = Table(n, (0, 1) * 2 ** (n - 1))
            for value in [*NO_WORDS, *[(0,) * length for length in range(1, 13) if length != n]]:
                self.assert_raises(InvalidWord, {"value": value}, table.bit, value)


class EqualTest(Case):
    def test_tables(self):
        found = [Table(n, bits) for n in (1, 2) for bits in product((0, 1), repeat=2 ** n)]
        for place, one in enumerate(found):
            for beside, other in enumerate(found):
                self.assert_exactly((one == other, one != other), (place == beside, place != beside))

    def test_tables_made_twice(self):
        for n in range(1, 11):
            bits = [number % 3 % 2 for number in range(2 ** n)]
            self.assert_exactly(Table(n, bits) == Table(n, tuple(bits)), True)
            for place in (0, 2 ** n - 1):
                changed = list(bits)
                changed[place] ^= 1
                self.assert_exactly(Table(n, bits) == Table(n, changed), False)
                self.assert_exactly(Table(n, bits) != Table(n, changed), True)

    def test_other_kinds_of_values(self):
        for table in (Table(1, (0, 1)), Table(2, (0, 1, 1, 0))):
            for value in [table.bits, list(table.bits), (table.n, table.bits), None, True, 0, 1, "01", Share(0, 1)]:
                self.assert_exactly((table == value, table != value), (False, True))
                self.assert_exactly((value == table, value != table), (False, True))


class AddedTest(Case):
    def test_all_of_one_and_two(self):
        for n in (1, 2):
            for one in product((0, 1), repeat=2 ** n):
                for other in product((0, 1), repeat=2 ** n):
                    self.assert_added(Table(n, one), Table(n, other))

    def test_greater_tables(self):
        dice = dice_for("added tables")
        for n in range(3, 11):
            self.assert_added(random_table(dice, n), random_table(dice, n))

    def test_wrong_values(self):
        table = Table(2, (0, 1, 1, 1))
        for value in NO_TABLES:
            self.assert_raises(InvalidTable, {"value": value}, lambda other: table + other, value)
        for n in range(1, 11):
            for size in range(1, 11):
                if n != size:
                    one, other = Table(n, (0,) * 2 ** n), Table(size, (0,) * 2 ** size)
                    self.assert_raises(InvalidTable, {"value": other}, lambda left, right: left + right, one, other)

    def assert_added(self, one, other):
        before = one.bits, other.bits
        wanted = tuple((left + right) % 2 for left, right in zip(one.bits, other.bits))
        self.assert_bits(one + other, one.n, wanted)
        self.assert_exactly((one.bits, other.bits), before)


class SumTableTest(Case):
    def test_all_of_few_bits(self):
        for n in range(1, 6):
            for word in product((0, 1), repeat=n):
                self.assert_sum(word)

    def test_more_bits(self):
        dice = dice_for("sum_table")
        for n in range(6, 11):
            for word in ((0,) * n, (1,) * n, (1,) + (0,) * (n - 1), random_word(dice, n)):
                self.assert_sum(word)

    def test_examples(self):
        self.assert_bits(sum_table((0,)), 1, (0, 0))
        self.assert_bits(sum_table((1,)), 1, (0, 1))
        self.assert_bits(sum_table((0, 1)), 2, (0, 1, 0, 1))
        self.assert_bits(sum_table((1, 1, 0)), 3, (0, 0, 1, 1, 1, 1, 0, 0))

    def test_wrong_words(self):
        for value in [*NO_WORDS, (0,) * 11, (1,) * 11, (0,) * 12, (1,) * 12]:
            self.assert_raises(InvalidWord, {"value": value}, sum_table, value)

    def assert_sum(self, word):
        wanted = tuple(product_of(word, other) for other in all_words(len(word)))
        self.assert_bits(sum_table(word), len(word), wanted)


class DistanceTest(Case):
    def test_all_of_one_and_two(self):
        for n in (1, 2):
            for one in product((0, 1), repeat=2 ** n):
                for other in product((0, 1), repeat=2 ** n):
                    self.assert_distance(Table(n, one), Table(n, other))

    def test_greater_tables(self):
        dice = dice_for("distance")
        for n in range(3, 11):
            self.assert_distance(random_table(dice, n), random_table(dice, n))
            zeros, ones = Table(n, (0,) * 2 ** n), Table(n, (1,) * 2 ** n)
            self.assert_exactly(distance(zeros, ones), 2 ** n)
            self.assert_exactly(distance(ones, ones), 0)

    def test_wrong_values(self):
        for value in NO_TABLES:
            self.assert_raises(InvalidTable, {"value": value}, distance, Table(2, (0, 1, 1, 1)), value)
        for n in range(1, 11):
            for size in range(1, 11):
                if n != size:
                    other = Table(size, (0,) * 2 ** size)
                    self.assert_raises(InvalidTable, {"value": other}, distance, Table(n, (0,) * 2 ** n), other)

    def assert_distance(self, one, other):
        wanted = len([left for left, right in zip(one.bits, other.bits) if left != right])
        self.assert_exactly(distance(one, other), wanted)


class TurnedTableTest(Case):
    def test_all_matrices_of_few_bits(self):
        dice = dice_for("turned_table")
        for n in (1, 2, 3):
            table = random_table(dice, n)
            marked = Table(n, [0] * (2 ** n - 2) + [1, 0])
            for matrix in product(product((0, 1), repeat=n), repeat=n):
                if rank_of(matrix) == n:
                    self.assert_turned(table, matrix)
                    self.assert_turned(marked, matrix)
                else:
                    self.assert_raises(InvalidMatrix, {"value": matrix}, turned_table, table, matrix)

    def test_more_bits(self):
        dice = dice_for("turned_table of more bits")
        for n in range(4, 11):
            table, matrix = random_table(dice, n), random_matrix(dice, n)
            while rank_of(matrix) < n:
                matrix = random_matrix(dice, n)
            self.assert_turned(table, matrix)
            self.assert_bits(turned_table(table, unit_matrix(n)), n, table.bits)

    def test_wrong_values(self):
        for n in range(1, 11):
            table = Table(n, (0, 1) * 2 ** (n - 1))
            others = [unit_matrix(size) for size in range(1, 13) if size != n]
            less = [((0,) * n,) * n, unit_matrix(n)[:-1] + ((0,) * n,), ((0,) * n,) + unit_matrix(n)[1:]]
            for value in [*NO_MATRICES, *others, *less]:
                self.assert_raises(InvalidMatrix, {"value": value}, turned_table, table, value)

    def assert_turned(self, table, matrix):
        bits = bits_of(table)
        wanted = tuple(bits[times(word, matrix)] for word in all_words(table.n))
        self.assert_bits(turned_table(table, matrix), table.n, wanted)


class FixedTableTest(Case):
    def test_all_places_and_bits(self):
        dice = dice_for("fixed_table")
        for n in range(2, 11):
            table = random_table(dice, n)
            bits = bits_of(table)
            for place in range(n):
                for bit in (0, 1):
                    words = [word[:place] + (bit,) + word[place:] for word in all_words(n - 1)]
                    wanted = tuple(bits[word] for word in words)
                    self.assert_bits(fixed_table(table, place, bit), n - 1, wanted)

    def test_examples(self):
        table = Table(2, (0, 1, 1, 1))
        self.assert_bits(fixed_table(table, 0, 0), 1, (0, 1))
        self.assert_bits(fixed_table(table, 0, 1), 1, (1, 1))
        self.assert_bits(fixed_table(Table(2, (0, 0, 1, 0)), 1, 0), 1, (0, 1))
        self.assert_bits(fixed_table(Table(2, (0, 0, 1, 0)), 1, 1), 1, (0, 0))

    def test_wrong_places_come_first(self):
        for n in (1, 2, 3, 10):
            table = Table(n, (0, 1) * 2 ** (n - 1))
            for place in [-1, -n, n, n + 1, 2 ** 70, *NO_INTEGERS]:
                for bit in (0, 1, 2, None, True):
                    self.assert_raises(InvalidNumber, {"value": place}, fixed_table, table, place, bit)

    def test_wrong_bits(self):
        for n in (1, 2, 3, 10):
            table = Table(n, (0, 1) * 2 ** (n - 1))
            for place in range(n):
                for bit in [2, -1, 2 ** 70, *NO_INTEGERS]:
                    self.assert_raises(InvalidNumber, {"value": bit}, fixed_table, table, place, bit)

    def test_tables_of_one_bit(self):
        for bits in product((0, 1), repeat=2):
            for bit in (0, 1):
                self.assert_raises(Undefined, {"what": "table"}, fixed_table, Table(1, bits), 0, bit)


if __name__ == "__main__":
    unittest.main()
