"""The sums that are near a table."""

from fourread.basics import are_bits, bits_number
from fourread.errors import InvalidShare, InvalidWord
from fourread.shares import Share
from fourread.signed import signed_sums
from fourread.words import all_words


def least_distance(table):
    """The least distance of table to a sum."""
    return (len(table) - max(signed_sums(table))) // 2


def nearest_sums(table):
    """The words, in order, whose sums are at the least distance."""
    numbers = signed_sums(table)
    most = max(numbers)
    return tuple([word for word, number in zip(all_words(table.n), numbers) if number == most])


def near_sums(table, share):
    """The words, in order, with a signed sum of at least share times the number of words."""
    if not isinstance(share, Share) or not 0 < share.over <= share.under:
        raise InvalidShare(share)
    least = share.over * len(table)
    numbers = signed_sums(table)
    return tuple([word for word, number in zip(all_words(table.n), numbers) if number * share.under >= least])


def beginning_weight(table, beginning):
    """The sum of the squares of the signed sums at the words that begin so."""
    if not isinstance(beginning, tuple) or len(beginning) > table.n or not are_bits(beginning):
        raise InvalidWord(beginning)
    many = 1 << (table.n - len(beginning))
    first = bits_number(beginning) * many
    return sum([number * number for number in signed_sums(table)[first:first + many]])
