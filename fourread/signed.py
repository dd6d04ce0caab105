"""Signed sums: how much oftener a table agrees with a sum than it differs from it."""

from fourread.basics import is_integer
from fourread.errors import InvalidWord, Undefined
from fourread.tables import Table, check_table_size, distance, sum_table
from fourread.words import is_word


def signed_sum(table, word):
    """At how many words table agrees with the sum of the word, less at how many it differs."""
    if not is_word(word, table.n):
        raise InvalidWord(word)
    return len(table) - 2 * distance(table, sum_table(word))


def sums_with_signs(numbers):
    """For all words a in order: the sum of the numbers, each that stands at a word x with the product 1 negated."""
    if len(numbers) == 1:
        return numbers
    half = len(numbers) // 2
    # The words of the first half begin with 0, those of the second with 1; the rest of both is alike.
    pairs = list(zip(sums_with_signs(numbers[:half]), sums_with_signs(numbers[half:])))
    return [first + second for first, second in pairs] + [first - second for first, second in pairs]


def signed_sums(table):
    """The signed sums of table at all words, in order."""
    return tuple(sums_with_signs([1 - 2 * bit for bit in table.bits]))


def table_from(n, numbers):
    """The table of n that has these signed sums."""
    check_table_size(n)
    size = 1 << n
    if not isinstance(numbers, (list, tuple)) or len(numbers) != size:
        raise Undefined("table")
    if not all([is_integer(number) for number in numbers]):
        raise Undefined("table")
    # To take sums with signs twice gives N times the first numbers: here N for the bit 0, -N for 1.
    signs = sums_with_signs(numbers)
    if any([abs(sign) != size for sign in signs]):
        raise Undefined("table")
    return Table(n, [0 if sign == size else 1 for sign in signs])
