"""Matrices: tuples of n words of n bits, their rows."""

from fourread.basics import chosen_sums, independent
from fourread.errors import InvalidMatrix, InvalidWord, Undefined
from fourread.words import is_any_word, is_word, number_of, product_of, word_of


def is_matrix(value, n):
    """Whether value is a matrix of n."""
    if not isinstance(value, tuple) or n == 0:
        return False
    return len(value) == n and all([is_word(row, n) for row in value])


def is_any_matrix(value):
    """Whether value is a matrix of as many bits as it has rows."""
    return isinstance(value, tuple) and is_matrix(value, len(value))


def check_matrix(matrix):
    """Raise InvalidMatrix unless matrix is one."""
    if not is_any_matrix(matrix):
        raise InvalidMatrix(matrix)


def times(word, matrix):
    """The sum of the rows at whose numbers the word has 1."""
    if not is_any_word(word):
        raise InvalidWord(word)
    if not is_matrix(matrix, len(word)):
        raise InvalidMatrix(matrix)
    return tuple([product_of(word, column) for column in zip(*matrix)])


def turned_about(matrix):
    """The matrix with its rows as columns."""
    check_matrix(matrix)
    return tuple(zip(*matrix))


def rank_of(matrix):
    """How many rows, at most, have no sum of some of them that is the zero word."""
    check_matrix(matrix)
    return len(independent([number_of(row) for row in matrix]))


def check_invertible(matrix, n):
    """Raise InvalidMatrix unless matrix is one of n that has an inverse."""
    if not is_matrix(matrix, n) or rank_of(matrix) < n:
        raise InvalidMatrix(matrix)


def inverse_of(matrix):
    """The matrix that leads from times(x, matrix) back to x, for all words x."""
    if rank_of(matrix) < len(matrix):
        raise Undefined("inverse")
    n = len(matrix)
    sums = chosen_sums([number_of(row) for row in matrix])
    # With full rank each unit is the sum of just one choice of rows: the inverse's row for it.
    return tuple([word_of(n, sums.index(1 << place)) for place in reversed(range(n))])
