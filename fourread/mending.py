"""Mended bits: a table's bit at a word, told by its bits at two other words."""

from fourread.errors import InvalidWord, Undefined
from fourread.shares import Share
from fourread.words import is_word, number_of


def mended(table, word, by):
    """The sum of the table's bits at word + by and at by."""
    for value in (word, by):
        if not is_word(value, table.n):
            raise InvalidWord(value)
    return table.bits[number_of(word) ^ number_of(by)] ^ table.bit(by)


def one_share(table, word):
    """The share of all words by for which the mended bit is 1."""
    if not is_word(word, table.n):
        raise InvalidWord(word)
    number = number_of(word)
    return Share(sum([bit ^ table.bits[number ^ by] for by, bit in enumerate(table.bits)]), len(table))


def mended_bit(table, word):
    """The bit that is mended for more than half of all words by."""
    share = one_share(table, word)
    half = Share(1, 2)
    if share == half:
        raise Undefined("bit")
    return 1 if half.is_below(share) else 0
