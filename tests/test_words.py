"""[5]: the module words."""

import unittest
from itertools import product

from fourread import words
from fourread.errors import InvalidNumber, InvalidWord
from fourread.words import added, all_words, is_word, number_of, product_of, word_of
from tests.support import Case, NO_INTEGERS, NO_WORDS, dice_for, random_word

WRONG_LENGTHS = [0, 13, -1, -12, 14, 100, 2 ** 70, *NO_INTEGERS]


class InterfaceTest(Case):
    def test_names(self):
        self.assert_interface(words, {
            "is_word": ["value", "n"], "all_words": ["n"], "added": ["one", "other"], "product_of": ["one", "other"],
            "number_of": ["word"], "word_of": ["n", "number"],
        })

    def test_arguments_by_name(self):
        self.assert_exactly(is_word(n=2, value=(0, 1)), True)
        self.assert_exactly(all_words(n=1), ((0,), (1,)))
        self.assert_exactly(added(other=(0, 1), one=(1, 1)), (1, 0))
        self.assert_exactly(product_of(other=(0, 1), one=(1, 1)), 1)
        self.assert_exactly(number_of(word=(1, 0)), 2)
        self.assert_exactly(word_of(number=2, n=2), (1, 0))


class IsWordTest(Case):
    def test_words_of_all_lengths(self):
        for n in range(1, 13):
            for length in range(1, 13):
                self.assert_exactly(is_word((0,) * length, n), length == n)
                self.assert_exactly(is_word((0,) * (length - 1) + (1,), n), length == n)
                self.assert_exactly(is_word((1,) * length, n), length == n)
        for n in range(1, 7):
            for word in product((0, 1), repeat=n):
                self.assert_exactly(is_word(word, n), True)

    def test_neighbouring_lengths(self):
        self.assert_exactly(is_word((), 1), False)
        self.assert_exactly(is_word((0, 1), 1), False)
        self.assert_exactly(is_word((0,), 2), False)
        self.assert_exactly(is_word((0,) * 11, 12), False)
        self.assert_exactly(is_word((0,) * 13, 12), False)

    def test_other_values(self):
        for value in NO_WORDS:
            for n in range(1, 13):
                self.assert_exactly(is_word(value, n), False)

    def test_one_wrong_bit_at_each_place(self):
        for n in range(1, 13):
            for place in range(n):
                for wrong in (2, -1, True, False, None, "0", "1", (), (0,), [1]):
                    value = (0,) * place + (wrong,) + (1,) * (n - place - 1)
                    self.assert_exactly(is_word(value, n), False)

    def test_lists_are_no_words(self):
        for n in range(1, 13):
            self.assert_exactly(is_word([0] * n, n), False)
            self.assert_exactly(is_word("0" * n, n), False)


class AllWordsTest(Case):
    def test_all_lengths(self):
        for n in range(1, 13):
            self.assert_exactly(all_words(n), tuple(product((0, 1), repeat=n)))

    def test_two_bits(self):
        self.assert_exactly(all_words(2), ((0, 0), (0, 1), (1, 0), (1, 1)))

    def test_wrong_lengths(self):
        for n in WRONG_LENGTHS:
            self.assert_raises(InvalidNumber, {"value": n}, all_words, n)


class AddedAndProductTest(Case):
    def test_all_pairs_of_few_bits(self):
        for n in range(1, 5):
            for one in product((0, 1), repeat=n):
                for other in product((0, 1), repeat=n):
                    self.assert_pair(one, other)

    def test_longer_words(self):
        dice = dice_for("added")
        for n in range(5, 13):
            zeros, ones = (0,) * n, (1,) * n
            for one, other in [(zeros, zeros), (zeros, ones), (ones, zeros), (ones, ones)]:
                self.assert_pair(one, other)
            for _ in range(20):
                self.assert_pair(random_word(dice, n), random_word(dice, n))

    def test_examples(self):
        self.assert_exactly(added((1, 1, 0, 0), (1, 0, 1, 0)), (0, 1, 1, 0))
        self.assert_exactly(product_of((1, 1, 0, 0), (1, 0, 1, 0)), 1)
        self.assert_exactly(product_of((1, 1, 1), (1, 1, 1)), 1)
        self.assert_exactly(product_of((1,) * 12, (1,) * 12), 0)

    def test_first_that_is_no_word(self):
        for call in (added, product_of):
            for value in NO_WORDS:
                for other in ((0,), (0, 1), (1,) * 12):
                    self.assert_raises(InvalidWord, {"value": value}, call, value, other)
                    self.assert_raises(InvalidWord, {"value": value}, call, other, value)
                for other in NO_WORDS:
                    self.assert_raises(InvalidWord, {"value": value}, call, value, other)

    def test_other_lengths(self):
        for call in (added, product_of):
            for length in range(1, 13):
                for longer in range(1, 13):
                    if length != longer:
                        one, other = (1,) * length, (1,) * longer
                        self.assert_raises(InvalidWord, {"value": other}, call, one, other)

    def assert_pair(self, one, other):
        self.assert_exactly(added(one, other), tuple((a + b) % 2 for a, b in zip(one, other)))
        self.assert_exactly(product_of(one, other), sum(a * b for a, b in zip(one, other)) % 2)


class NumbersTest(Case):
    def test_back_and_forth(self):
        for n in range(1, 13):
            for number, word in enumerate(product((0, 1), repeat=n)):
                self.assertEqual(number_of(word), number)
                self.assertEqual(word_of(n, number), word)

    def test_kinds(self):
        self.assert_exactly(number_of((1,)), 1)
        self.assert_exactly(number_of((0, 1, 1)), 3)
        self.assert_exactly(number_of((1,) * 12), 4095)
        self.assert_exactly(word_of(1, 0), (0,))
        self.assert_exactly(word_of(3, 3), (0, 1, 1))
        self.assert_exactly(word_of(12, 4095), (1,) * 12)

    def test_number_of_other_values(self):
        for value in NO_WORDS:
            self.assert_raises(InvalidWord, {"value": value}, number_of, value)

    def test_word_of_wrong_lengths_first(self):
        for n in WRONG_LENGTHS:
            for number in (0, 1, -1, 2 ** 80, None, True):
                self.assert_raises(InvalidNumber, {"value": n}, word_of, n, number)

    def test_word_of_wrong_numbers(self):
        for n in range(1, 13):
            for number in [-1, -2, 2 ** n, 2 ** n + 1, 2 ** 12, 2 ** 70, *NO_INTEGERS]:
                self.assert_raises(InvalidNumber, {"value": number}, word_of, n, number)


if __name__ == "__main__":
    unittest.main()
