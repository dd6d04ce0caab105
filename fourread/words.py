"""Words: tuples of 1 to 12 bits."""

from fourread.basics import LONGEST_WORD, bits_number, is_between, is_row_of_bits
from fourread.errors import InvalidNumber, InvalidWord


def is_word(value, n):
    """Whether value is a word of n bits."""
    return 1 <= n <= LONGEST_WORD and is_row_of_bits(value, n)


def is_any_word(value):
    """Whether value is a word of any length."""
    return isinstance(value, tuple) and is_word(value, len(value))


def check_length(n):
    """Raise InvalidNumber unless n is the length of a word."""
    if not is_between(n, 1, LONGEST_WORD):
        raise InvalidNumber(n)


def check_word_pair(one, other):
    """Raise InvalidWord unless both are words of one length."""
    for word in (one, other):
        if not is_any_word(word):
            raise InvalidWord(word)
    if len(other) != len(one):
        raise InvalidWord(other)


def all_words(n):
    """All words of n bits, in order."""
    check_length(n)
    words = [()]
    for _ in range(n):
        words = [word + (bit,) for word in words for bit in (0, 1)]
    return tuple(words)


def added(one, other):
    """The sum of two words, bit by bit."""
    check_word_pair(one, other)
    return tuple([left ^ right for left, right in zip(one, other)])


def product_of(one, other):
    """The sum of the products of the bits of two words."""
    check_word_pair(one, other)
    return sum([left & right for left, right in zip(one, other)]) & 1


def number_of(word):
    """The number of a word in the order of the words of its length."""
    if not is_any_word(word):
        raise InvalidWord(word)
    return bits_number(word)


def word_of(n, number):
    """The word of n bits that has this number."""
    check_length(n)
    if not is_between(number, 0, (1 << n) - 1):
        raise InvalidNumber(number)
    return tuple([(number >> place) & 1 for place in reversed(range(n))])
