"""[6]: the module matrices."""

import unittest
from itertools import combinations, product

from fourread import matrices
from fourread.errors import InvalidMatrix, InvalidWord, Undefined
from fourread.matrices import inverse_of, rank_of, times, turned_about
from tests.support import Case, NO_MATRICES, NO_WORDS, dice_for, random_matrix, random_word, unit_matrix


def all_of(n):
    return list(product((0, 1), repeat=n))


def all_matrices(n):
    return list(product(all_of(n), repeat=n))


def sum_of(n, rows):
    return tuple(sum(row[place] for row in rows) % 2 for place in range(n))


def is_free(n, rows):
    """Whether no sum of some of the rows is the zero word."""
    for many in range(1, len(rows) + 1):
        for chosen in combinations(rows, many):
            if not any(sum_of(n, chosen)):
                return False
    return True


def rank_by_definition(matrix):
    n = len(matrix)
    return max(many for many in range(n + 1) for rows in combinations(matrix, many) if is_free(n, rows))


def lower_matrix(n):
    """A matrix of full rank that is not turned into itself when it is inverted or turned about."""
    return tuple((1,) * (row + 1) + (0,) * (n - row - 1) for row in range(n))


class InterfaceTest(Case):
    def test_names(self):
        self.assert_interface(matrices, {
            "times": ["word", "matrix"], "turned_about": ["matrix"], "rank_of": ["matrix"], "inverse_of": ["matrix"],
        })

    def test_arguments_by_name(self):
        matrix = ((1, 1), (0, 1))
        self.assert_exactly(times(matrix=matrix, word=(1, 0)), (1, 1))
        self.assert_exactly(turned_about(matrix=matrix), ((1, 0), (1, 1)))
        self.assert_exactly(rank_of(matrix=matrix), 2)
        self.assert_exactly(inverse_of(matrix=matrix), ((1, 1), (0, 1)))


class TimesTest(Case):
    def test_all_of_few_bits(self):
        for n in (1, 2, 3):
            for matrix in all_matrices(n):
                for word in all_of(n):
                    self.assert_times(word, matrix)

    def test_more_bits(self):
        dice = dice_for("times")
        for n in range(4, 13):
            for matrix in (unit_matrix(n), lower_matrix(n), random_matrix(dice, n), random_matrix(dice, n)):
                for word in ((0,) * n, (1,) * n, random_word(dice, n), random_word(dice, n)):
                    self.assert_times(word, matrix)

    def test_examples(self):
        matrix = ((0, 1, 1), (1, 1, 0), (0, 0, 1))
        self.assert_exactly(times((1, 0, 0), matrix), (0, 1, 1))
        self.assert_exactly(times((1, 1, 0), matrix), (1, 0, 1))
        self.assert_exactly(times((0, 0, 0), matrix), (0, 0, 0))

    def test_values_that_are_no_words_come_first(self):
        for value in NO_WORDS:
            for matrix in (((1,),), unit_matrix(2), unit_matrix(12), None, (), [(1,)]):
                self.assert_raises(InvalidWord, {"value": value}, times, value, matrix)

    def test_values_that_are_no_matrices(self):
        for value in NO_MATRICES:
            for n in range(1, 13):
                self.assert_raises(InvalidMatrix, {"value": value}, times, (1,) * n, value)

    def test_matrices_of_other_sizes(self):
        for n in range(1, 13):
            for size in range(1, 13):
                if n != size:
                    matrix = unit_matrix(size)
                    self.assert_raises(InvalidMatrix, {"value": matrix}, times, (0,) * n, matrix)

    def assert_times(self, word, matrix):
        rows = [row for bit, row in zip(word, matrix) if bit]
        self.assert_exactly(times(word, matrix), sum_of(len(word), rows))


class TurnedAboutTest(Case):
    def test_all_of_few_bits(self):
        for n in (1, 2, 3):
            for matrix in all_matrices(n):
                self.assert_turned(matrix)

    def test_more_bits(self):
        dice = dice_for("turned_about")
        for n in range(4, 13):
            for matrix in (unit_matrix(n), lower_matrix(n), random_matrix(dice, n)):
                self.assert_turned(matrix)

    def test_wrong_values(self):
        for value in NO_MATRICES:
            self.assert_raises(InvalidMatrix, {"value": value}, turned_about, value)

    def assert_turned(self, matrix):
        n = len(matrix)
        wanted = tuple(tuple(matrix[row][place] for row in range(n)) for place in range(n))
        self.assert_exactly(turned_about(matrix), wanted)


class RankTest(Case):
    def test_all_of_few_bits(self):
        for n in (1, 2, 3):
            for matrix in all_matrices(n):
                self.assert_exactly(rank_of(matrix), rank_by_definition(matrix))

    def test_more_bits(self):
        dice = dice_for("rank_of")
        for n in (4, 5):
            for _ in range(60):
                matrix = random_matrix(dice, n)
                self.assert_exactly(rank_of(matrix), rank_by_definition(matrix))

    def test_known_ranks(self):
        for n in range(1, 13):
            self.assert_exactly(rank_of(((0,) * n,) * n), 0)
            self.assert_exactly(rank_of(((1,) * n,) * n), 1)
            self.assert_exactly(rank_of(unit_matrix(n)), n)
            self.assert_exactly(rank_of(unit_matrix(n)[::-1]), n)
            self.assert_exactly(rank_of(lower_matrix(n)), n)
            self.assert_exactly(rank_of(lower_matrix(n)[::-1]), n)
            for less in range(n):
                rows = unit_matrix(n)[:less] + ((0,) * n,) * (n - less)
                self.assert_exactly(rank_of(rows), less)
                self.assert_exactly(rank_of(rows[::-1]), less)

    def test_a_row_that_is_the_sum_of_others(self):
        for n in range(2, 13):
            rows = lower_matrix(n)[:-1]
            for many in range(1, n):
                last = sum_of(n, rows[:many])
                self.assert_exactly(rank_of(rows + (last,)), n - 1)
                self.assert_exactly(rank_of((last,) + rows), n - 1)

    def test_wrong_values(self):
        for value in NO_MATRICES:
            self.assert_raises(InvalidMatrix, {"value": value}, rank_of, value)


class InverseTest(Case):
    def test_all_of_few_bits(self):
        for n in (1, 2, 3):
            for matrix in all_matrices(n):
                if rank_by_definition(matrix) == n:
                    self.assert_inverse(matrix, all_of(n))
                else:
                    self.assert_raises(Undefined, {"what": "inverse"}, inverse_of, matrix)

    def test_more_bits(self):
        dice = dice_for("inverse_of")
        for n in range(4, 13):
            found = [unit_matrix(n), unit_matrix(n)[::-1], lower_matrix(n), lower_matrix(n)[::-1]]
            while len(found) < 7:
                matrix = random_matrix(dice, n)
                if rank_of(matrix) == n:
                    found.append(matrix)
            for matrix in found:
                self.assert_inverse(matrix, [random_word(dice, n) for _ in range(10)] + list(unit_matrix(n)))

    def test_example(self):
        matrix = ((0, 1, 0), (0, 0, 1), (1, 0, 1))
        self.assert_exactly(inverse_of(matrix), ((0, 1, 1), (1, 0, 0), (0, 1, 0)))

    def test_all_words_of_twelve_bits(self):
        matrix = lower_matrix(12)
        inverse = inverse_of(matrix)
        for word in all_of(12)[::37]:
            self.assertEqual(times(times(word, matrix), inverse), word)

    def test_less_rank(self):
        for n in range(1, 13):
            for less in range(n):
                rows = unit_matrix(n)[:less] + ((0,) * n,) * (n - less)
                self.assert_raises(Undefined, {"what": "inverse"}, inverse_of, rows)
        for n in range(2, 13):
            rows = lower_matrix(n)[:-1]
            self.assert_raises(Undefined, {"what": "inverse"}, inverse_of, rows + (rows[0],))
            self.assert_raises(Undefined, {"what": "inverse"}, inverse_of, rows + (sum_of(n, rows),))

    def test_wrong_values_come_before_undefined(self):
        for value in NO_MATRICES:
            self.assert_raises(InvalidMatrix, {"value": value}, inverse_of, value)

    def assert_inverse(self, matrix, words):
        inverse = inverse_of(matrix)
        self.assert_exactly(inverse_of(inverse), matrix)
        for word in words:
            self.assert_exactly(times(times(word, matrix), inverse), word)


if __name__ == "__main__":
    unittest.main()
