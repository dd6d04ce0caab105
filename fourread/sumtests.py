"""Tests of sums: whether a table's bits at some words add to its bit at the sum of the words."""

from fourread.basics import is_between, power
from fourread.errors import InvalidNumber, InvalidWords
from fourread.shares import Share
from fourread.signed import signed_sums
from fourread.words import is_word, number_of

MOST_WORDS_OF_A_ROW = 6


def passes_sum(table, words):
    """Whether the sum of the table's bits at the words is its bit at their sum."""
    if not isinstance(words, tuple) or len(words) == 0 or not all([is_word(word, table.n) for word in words]):
        raise InvalidWords(words)
    total = 0
    bit = 0
    for number in [number_of(word) for word in words]:
        total = total ^ number
        bit = bit ^ table.bits[number]
    return table.bits[total] == bit


def passing_share(table, *, many=2):
    """The share, of all rows of so many words, of those that pass."""
    if not is_between(many, 1, MOST_WORDS_OF_A_ROW):
        raise InvalidNumber(many)
    # Of (1 + the sum of all (signed sum / N)^(many + 1)) / 2, both sides of the fraction times N^(many + 1).
    whole = power(len(table), many + 1)
    return Share(whole + sum([power(number, many + 1) for number in signed_sums(table)]), 2 * whole)
