"""Tables: a bit at each word of n bits."""

from fourread.basics import are_bits, chosen_sums, is_between
from fourread.errors import InvalidNumber, InvalidTable, InvalidWord, Undefined
from fourread.matrices import check_invertible
from fourread.words import is_any_word, is_word, number_of

LARGEST_TABLE = 10


def check_table_size(n):
    """Raise InvalidNumber unless n is the size of a table."""
    if not is_between(n, 1, LARGEST_TABLE):
        raise InvalidNumber(n)


class Table:
    """A table of n: bit k stands at the word with the number k."""

    def __init__(self, n, bits):
        check_table_size(n)
        if not isinstance(bits, (list, tuple)) or len(bits) != 1 << n or not are_bits(bits):
            raise InvalidTable(bits)
        self.n = n
        self.bits = tuple(bits)

    def __len__(self):
        return len(self.bits)

    def __iter__(self):
        return iter(self.bits)

    def __eq__(self, other):
        return isinstance(other, Table) and self.n == other.n and self.bits == other.bits

    def __add__(self, other):
        check_like_table(self, other)
        return Table(self.n, [left ^ right for left, right in zip(self.bits, other.bits)])

    def bit(self, word):
        """The table's bit at the word."""
        if not is_word(word, self.n):
            raise InvalidWord(word)
        return self.bits[number_of(word)]


def check_like_table(one, other):
    """Raise InvalidTable unless other is a table of one's n."""
    if not isinstance(other, Table) or other.n != one.n:
        raise InvalidTable(other)


def sum_table(word):
    """The sum of the word: the table of its product with each word."""
    if not is_any_word(word) or len(word) > LARGEST_TABLE:
        raise InvalidWord(word)
    return Table(len(word), chosen_sums(word))


def distance(one, other):
    """At how many words two tables differ."""
    check_like_table(one, other)
    return sum([left ^ right for left, right in zip(one.bits, other.bits)])


def turned_table(table, matrix):
    """The table that has at x the bit of table at times(x, matrix)."""
    check_invertible(matrix, table.n)
    turned = chosen_sums([number_of(row) for row in matrix])
    return Table(table.n, [table.bits[number] for number in turned])


def fixed_table(table, place, bit):
    """The table of table's bits at the words that have bit at place, with place left out."""
    if not is_between(place, 0, table.n - 1):
        raise InvalidNumber(place)
    if not is_between(bit, 0, 1):
        raise InvalidNumber(bit)
    if table.n == 1:
        raise Undefined("table")
    shift = table.n - 1 - place
    return Table(table.n - 1, [kept for number, kept in enumerate(table.bits) if (number >> shift) & 1 == bit])
