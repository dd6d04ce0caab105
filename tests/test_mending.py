"""[13]: the module mending."""

import unittest
from itertools import product

from fourread import mending
from fourread.errors import InvalidWord, Undefined
from fourread.mending import mended, mended_bit, one_share
from fourread.nearest import least_distance, nearest_sums
from fourread.shares import Share
from fourread.tables import Table, sum_table
from fourread.words import added, all_words, product_of
from tests.support import Case, NO_WORDS, dice_for, random_table, random_word, some_tables

TABLE = Table(2, (0, 1, 1, 1))


def tables_to(n):
    """All tables of 1 and 2, some of the others up to n."""
    dice = dice_for("mending")
    found = [Table(size, bits) for size in (1, 2) for bits in product((0, 1), repeat=2 ** size)]
    return found + [table for size in range(3, n + 1) for table in some_tables(dice, size)]


def no_words(n):
    """Values that are no words of n bits."""
    return [*NO_WORDS, *[(0,) * length for length in range(1, 13) if length != n], [0] * n, [1] * n]


class InterfaceTest(Case):
    def test_names(self):
        self.assert_interface(mending, {
            "mended": ["table", "word", "by"], "one_share": ["table", "word"], "mended_bit": ["table", "word"],
        })

    def test_arguments_by_name(self):
        self.assert_exactly(mended(by=(0, 0), word=(0, 1), table=TABLE), 1)
        self.assert_exactly(one_share(word=(0, 1), table=TABLE), Share(1, 2))
        self.assert_exactly(mended_bit(word=(0, 0), table=TABLE), 0)


class MendedTest(Case):
    def test_by_the_two_reads(self):
        for table in tables_to(4):
            for word, by in product(all_words(table.n), repeat=2):
                wanted = (table.bit(added(word, by)) + table.bit(by)) % 2
                self.assert_exactly(mended(table, word, by), wanted)

    def test_greater_tables(self):
        dice = dice_for("mended")
        for n in range(5, 11):
            table = random_table(dice, n)
            for _ in range(40):
                word, by = random_word(dice, n), random_word(dice, n)
                wanted = (table.bit(added(word, by)) + table.bit(by)) % 2
                self.assert_exactly(mended(table, word, by), wanted)

    def test_examples(self):
        table = Table(2, (1, 0, 0, 0))
        self.assert_exactly([mended(table, (0, 1), by) for by in all_words(2)], [1, 1, 0, 0])
        self.assert_exactly([mended(table, (0, 0), by) for by in all_words(2)], [0, 0, 0, 0])

    def test_wrong_words_come_first(self):
        for n in (1, 2, 3, 10):
            table = Table(n, (0, 1) * 2 ** (n - 1))
            for word in no_words(n):
                for by in ((0,) * n, (0,) * (n + 1), None, [0] * n):
                    self.assert_raises(InvalidWord, {"value": word}, mended, table, word, by)

    def test_then_wrong_second_words(self):
        for n in range(1, 11):
            table = Table(n, (0, 1) * 2 ** (n - 1))
            for by in no_words(n):
                self.assert_raises(InvalidWord, {"value": by}, mended, table, (1,) * n, by)


class OneShareTest(Case):
    def test_by_all_words(self):
        for table in tables_to(5):
            for word in all_words(table.n):
                ones = [by for by in all_words(table.n) if mended(table, word, by) == 1]
                self.assert_exactly(one_share(table, word), Share(len(ones), len(table)))

    def test_greater_tables(self):
        dice = dice_for("one_share")
        for n in range(6, 11):
            table = random_table(dice, n)
            for word in ((0,) * n, (1,) * n, random_word(dice, n)):
                ones = [by for by in all_words(n) if mended(table, word, by) == 1]
                self.assert_exactly(one_share(table, word), Share(len(ones), len(table)))

    def test_examples(self):
        self.assert_exactly([one_share(TABLE, word) for word in all_words(2)], [
            Share(0, 1), Share(1, 2), Share(1, 2), Share(1, 2),
        ])
        self.assert_exactly(one_share(sum_table((1, 0, 1)), (0, 0, 1)), Share(1, 1))

    def test_wrong_words(self):
        for n in range(1, 11):
            table = Table(n, (0, 1) * 2 ** (n - 1))
            for word in no_words(n):
                self.assert_raises(InvalidWord, {"value": word}, one_share, table, word)


class MendedBitTest(Case):
    def test_by_the_share(self):
        for table in tables_to(6):
            for word in all_words(table.n):
                share = one_share(table, word)
                if share == Share(1, 2):
                    self.assert_raises(Undefined, {"what": "bit"}, mended_bit, table, word)
                else:
                    self.assert_exactly(mended_bit(table, word), int(Share(1, 2).is_below(share)))

    def test_just_beside_a_half(self):
        for n in range(2, 11):
            half = 2 ** (n - 2)
            for pairs in (half - 1, half, half + 1):
                # Each pair of words that differ in their last bit alone has unlike bits, or like ones.
                table = Table(n, (0, 1) * pairs + (1, 1) * (2 * half - pairs))
                word = (0,) * (n - 1) + (1,)
                self.assert_exactly(one_share(table, word), Share(pairs, 2 * half))
                if pairs == half:
                    self.assert_raises(Undefined, {"what": "bit"}, mended_bit, table, word)
                else:
                    self.assert_exactly(mended_bit(table, word), int(pairs > half))

    def test_examples(self):
        self.assert_exactly(mended_bit(TABLE, (0, 0)), 0)
        for word in ((0, 1), (1, 0), (1, 1)):
            self.assert_raises(Undefined, {"what": "bit"}, mended_bit, TABLE, word)
        self.assert_exactly(mended_bit(Table(2, (1, 1, 1, 1)), (1, 0)), 0)

    def test_wrong_words(self):
        for n in range(1, 11):
            table = Table(n, (0, 1) * 2 ** (n - 1))
            for word in no_words(n):
                self.assert_raises(InvalidWord, {"value": word}, mended_bit, table, word)


class BoldTest(Case):
    def test_near_a_sum(self):
        dice = dice_for("bold of mending")
        for n in range(1, 11):
            words = all_words(n) if n < 5 else [random_word(dice, n) for _ in range(2)]
            for word in words:
                for many in sorted({0, 1, (2 ** n - 1) // 4}):
                    bits = list(sum_table(word).bits)
                    for place in dice.sample(range(2 ** n), many):
                        bits[place] ^= 1
                    self.assert_near(Table(n, bits), all_words(n)[::1 + 2 ** n // 100])

    def test_all_tables_of_few_bits(self):
        for n in (1, 2, 3):
            for bits in product((0, 1), repeat=2 ** n):
                self.assert_near(Table(n, bits), all_words(n))

    def assert_near(self, table, words):
        if 4 * least_distance(table) < len(table):
            self.assertEqual(len(nearest_sums(table)), 1)
            nearest = nearest_sums(table)[0]
            for word in words:
                self.assert_exactly(mended_bit(table, word), product_of(nearest, word))


if __name__ == "__main__":
    unittest.main()
