"""[12]: the module sumtests."""

import inspect
import unittest
from itertools import product

from fourread import sumtests
from fourread.errors import InvalidNumber, InvalidWords
from fourread.nearest import least_distance
from fourread.shares import Share
from fourread.signed import signed_sums
from fourread.sumtests import passes_sum, passing_share
from fourread.tables import Table, sum_table
from fourread.words import added, all_words
from tests.support import Case, NO_INTEGERS, NO_WORDS, dice_for, random_table, random_word, some_tables

TABLE = Table(2, (0, 1, 1, 1))


def all_tables(n):
    return [Table(n, bits) for bits in product((0, 1), repeat=2 ** n)]


def passes_by_words(table, words):
    """Whether the row of words passes, by the document's words."""
    total = words[0]
    for word in words[1:]:
        total = added(total, word)
    return sum(table.bit(word) for word in words) % 2 == table.bit(total)


def share_by_rows(table, many):
    rows = list(product(all_words(table.n), repeat=many))
    return Share(len([row for row in rows if passes_by_words(table, row)]), len(rows))


def share_by_formula(table, many):
    size = len(table)
    total = Share(1, 1)
    for number in signed_sums(table):
        total = total + Share(number ** (many + 1), size ** (many + 1))
    return total * Share(1, 2)


class InterfaceTest(Case):
    def test_names(self):
        self.assert_interface(sumtests, {"passes_sum": ["table", "words"], "passing_share": ["table", "many"]})
        many = inspect.signature(passing_share).parameters["many"]
        self.assertEqual((many.kind, many.default), (inspect.Parameter.KEYWORD_ONLY, 2))

    def test_arguments_by_name(self):
        self.assert_exactly(passes_sum(words=((0, 1),), table=TABLE), True)
        self.assert_exactly(passing_share(many=1, table=TABLE), Share(1, 1))
        with self.assertRaises(TypeError):
            passing_share(TABLE, 3)


class PassesSumTest(Case):
    def test_all_rows_of_few_words(self):
        for n, longest in ((1, 5), (2, 3)):
            for table in all_tables(n):
                for many in range(1, longest + 1):
                    for words in product(all_words(n), repeat=many):
                        self.assert_exactly(passes_sum(table, words), passes_by_words(table, words))

    def test_greater_tables_and_longer_rows(self):
        dice = dice_for("passes_sum")
        for n in range(3, 11):
            table = random_table(dice, n)
            for many in (1, 2, 3, 4, 7, 12, 13, 39, 40):
                for _ in range(6):
                    words = tuple(random_word(dice, n) for _ in range(many))
                    self.assert_exactly(passes_sum(table, words), passes_by_words(table, words))

    def test_one_word_passes_always(self):
        for table in (TABLE, Table(2, (1, 1, 1, 1)), Table(2, (1, 0, 0, 1))):
            for word in all_words(2):
                self.assert_exactly(passes_sum(table, (word,)), True)

    def test_words_that_are_alike(self):
        for table, even in ((TABLE, True), (Table(2, (1, 0, 0, 0)), False)):
            for word in all_words(2):
                self.assert_exactly(passes_sum(table, (word,) * 2), even)
                self.assert_exactly(passes_sum(table, (word,) * 3), True)
                self.assert_exactly(passes_sum(table, (word,) * 40), even)

    def test_examples(self):
        self.assert_exactly(passes_sum(TABLE, ((0, 1), (1, 0))), False)
        self.assert_exactly(passes_sum(TABLE, ((0, 1), (1, 0), (1, 1))), False)
        self.assert_exactly(passes_sum(TABLE, ((0, 0), (1, 0))), True)

    def test_sums_pass_always(self):
        dice = dice_for("sums pass")
        for n in range(1, 11):
            for _ in range(20):
                table = sum_table(random_word(dice, n))
                words = tuple(random_word(dice, n) for _ in range(dice.randrange(1, 41)))
                self.assert_exactly(passes_sum(table, words), True)

    def test_values_that_are_no_tuples_of_words(self):
        no_words = [value for value in NO_WORDS if value != ((0, 1),)]
        for value in [(), [], [(0, 1)], [(0, 1), (1, 0)], "01", *no_words, (0, 1), (1, 1, 0), ((),)]:
            self.assert_raises(InvalidWords, {"value": value}, passes_sum, TABLE, value)

    def test_wrong_words_at_any_place(self):
        for wrong in [*NO_WORDS, (0,), (1, 0, 1), [0, 1]]:
            for place in range(3):
                words = ((0, 1),) * place + (wrong,) + ((1, 1),) * (2 - place)
                self.assert_raises(InvalidWords, {"value": words}, passes_sum, TABLE, words)
        words = ((0, 1),) * 39 + ((0, True),)
        self.assert_raises(InvalidWords, {"value": words}, passes_sum, TABLE, words)

    def test_words_of_another_length(self):
        for n in range(1, 11):
            table = Table(n, (0, 1) * 2 ** (n - 1))
            for length in range(1, 13):
                words = ((0,) * length,)
                if length != n:
                    self.assert_raises(InvalidWords, {"value": words}, passes_sum, table, words)


class PassingShareTest(Case):
    def test_by_all_rows(self):
        for table in all_tables(1):
            for many in range(1, 7):
                self.assert_exactly(passing_share(table, many=many), share_by_rows(table, many))
        for table in all_tables(2):
            for many in range(1, 5):
                self.assert_exactly(passing_share(table, many=many), share_by_rows(table, many))
        for table in some_tables(dice_for("passing_share"), 3):
            for many in range(1, 4):
                self.assert_exactly(passing_share(table, many=many), share_by_rows(table, many))

    def test_two_words_where_many_is_not_told(self):
        dice = dice_for("two words")
        for table in [*all_tables(1), *all_tables(2), *some_tables(dice, 3), *some_tables(dice, 4)]:
            self.assert_exactly(passing_share(table), share_by_rows(table, 2))
            self.assert_exactly(passing_share(table), passing_share(table, many=2))

    def test_examples(self):
        self.assert_exactly([passing_share(TABLE, many=many) for many in range(1, 7)], [
            Share(1, 1), Share(5, 8), Share(5, 8), Share(17, 32), Share(17, 32), Share(65, 128),
        ])
        self.assert_exactly(passing_share(Table(1, (1, 1))), Share(0, 1))
        self.assert_exactly(passing_share(Table(1, (1, 1)), many=3), Share(1, 1))

    def test_wrong_numbers(self):
        for table in (TABLE, Table(1, (1, 1)), sum_table((1,) * 10)):
            for many in [0, 7, 8, -1, -2, 2 ** 70, *NO_INTEGERS]:
                self.assert_raises(InvalidNumber, {"value": many}, passing_share, table, many=many)


class BoldTest(Case):
    def tables(self):
        dice = dice_for("bold of sumtests")
        return [*all_tables(1), *all_tables(2), *[table for n in range(3, 11) for table in some_tables(dice, n)]]

    def test_the_formula(self):
        for table in self.tables():
            for many in range(1, 7) if table.n < 8 else (1, 2, 6):
                self.assert_exactly(passing_share(table, many=many), share_by_formula(table, many))

    def test_the_bounds(self):
        one = Share(1, 1)
        for table in self.tables():
            far = Share(least_distance(table), len(table))
            share = passing_share(table)
            self.assertFalse((one - far).is_below(share))
            self.assertFalse((one - Share(3, 1) * far + Share(6, 1) * far * far).is_below(share))

    def test_sums_alone_pass_always(self):
        for table in [*self.tables(), *[sum_table(word) for n in range(1, 6) for word in all_words(n)]]:
            self.assert_exactly(passing_share(table) == Share(1, 1), least_distance(table) == 0)


if __name__ == "__main__":
    unittest.main()
