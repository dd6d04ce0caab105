"""[7]: the module squares."""

import unittest
from itertools import product

from fourread import squares
from fourread.errors import InvalidSquare, InvalidWord
from fourread.squares import added_squares, square_of, square_product
from tests.support import Case, NO_MATRICES, NO_WORDS, dice_for, random_matrix, random_word, unit_matrix


class InterfaceTest(Case):
    def test_names(self):
        self.assert_interface(squares, {
            "square_of": ["one", "other"], "added_squares": ["one", "other"], "square_product": ["one", "other"],
        })

    def test_arguments_by_name(self):
        self.assert_exactly(square_of(other=(0, 1), one=(1, 1)), ((0, 1), (0, 1)))
        self.assert_exactly(square_of(other=(1, 1), one=(0, 1)), ((0, 0), (1, 1)))
        one, other = ((1, 1), (0, 0)), ((1, 0), (1, 0))
        self.assert_exactly(added_squares(other=other, one=one), ((0, 1), (1, 0)))
        self.assert_exactly(square_product(other=other, one=one), 1)


class SquareOfTest(Case):
    def test_all_words_of_few_bits(self):
        for n in range(1, 5):
            for one in product((0, 1), repeat=n):
                for other in product((0, 1), repeat=n):
                    self.assert_square(one, other)

    def test_longer_words(self):
        dice = dice_for("square_of")
        for n in range(5, 13):
            self.assert_square((1,) * n, (1,) * n)
            for _ in range(5):
                self.assert_square(random_word(dice, n), random_word(dice, n))

    def test_example(self):
        self.assert_exactly(square_of((1, 0, 1), (0, 1, 1)), ((0, 1, 1), (0, 0, 0), (0, 1, 1)))

    def test_first_that_is_no_word(self):
        for value in NO_WORDS:
            for other in ((0,), (1, 1), (1,) * 12):
                self.assert_raises(InvalidWord, {"value": value}, square_of, value, other)
                self.assert_raises(InvalidWord, {"value": value}, square_of, other, value)
            for other in NO_WORDS:
                self.assert_raises(InvalidWord, {"value": value}, square_of, value, other)

    def test_other_lengths(self):
        for length in range(1, 13):
            for longer in range(1, 13):
                if length != longer:
                    one, other = (0,) * length, (0,) * longer
                    self.assert_raises(InvalidWord, {"value": other}, square_of, one, other)

    def assert_square(self, one, other):
        wanted = tuple(tuple(a * b for b in other) for a in one)
        self.assert_exactly(square_of(one, other), wanted)


class PairsOfSquaresTest(Case):
    def test_all_squares_of_few_bits(self):
        for n in (1, 2):
            found = list(product(product((0, 1), repeat=n), repeat=n))
            for one in found:
                for other in found:
                    self.assert_pair(one, other)

    def test_more_bits(self):
        dice = dice_for("squares")
        for n in range(3, 13):
            zeros, ones = ((0,) * n,) * n, ((1,) * n,) * n
            for one, other in [(zeros, ones), (ones, zeros), (ones, ones), (unit_matrix(n), ones)]:
                self.assert_pair(one, other)
            for _ in range(10):
                self.assert_pair(random_matrix(dice, n), random_matrix(dice, n))

    def test_examples(self):
        one, other = ((1, 1), (1, 0)), ((1, 0), (1, 1))
        self.assert_exactly(added_squares(one, other), ((0, 1), (0, 1)))
        self.assert_exactly(square_product(one, other), 0)
        self.assert_exactly(square_product(one, ((1, 0), (0, 1))), 1)

    def test_product_is_not_that_of_turned_squares(self):
        one, other = ((0, 1), (0, 0)), ((0, 0), (1, 0))
        self.assert_exactly(square_product(one, one), 1)
        self.assert_exactly(square_product(one, other), 0)

    def test_first_that_is_no_square(self):
        for call in (added_squares, square_product):
            for value in NO_MATRICES:
                for other in (((1,),), unit_matrix(2), unit_matrix(12)):
                    self.assert_raises(InvalidSquare, {"value": value}, call, value, other)
                    self.assert_raises(InvalidSquare, {"value": value}, call, other, value)
                for other in NO_MATRICES:
                    self.assert_raises(InvalidSquare, {"value": value}, call, value, other)

    def test_other_sizes(self):
        for call in (added_squares, square_product):
            for n in range(1, 13):
                for size in range(1, 13):
                    if n != size:
                        one, other = unit_matrix(n), unit_matrix(size)
                        self.assert_raises(InvalidSquare, {"value": other}, call, one, other)

    def assert_pair(self, one, other):
        bits = [list(zip(row, beside)) for row, beside in zip(one, other)]
        wanted = tuple(tuple((a + b) % 2 for a, b in row) for row in bits)
        self.assert_exactly(added_squares(one, other), wanted)
        self.assert_exactly(square_product(one, other), sum(a * b for row in bits for a, b in row) % 2)


if __name__ == "__main__":
    unittest.main()
