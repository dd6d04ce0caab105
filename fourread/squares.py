"""Squares: matrices that are added and multiplied bit by bit."""

from fourread.errors import InvalidSquare
from fourread.matrices import is_any_matrix
from fourread.words import added, all_words, check_word_pair, product_of


def square_bits(square):
    """The bits of a square, its rows put behind one another."""
    return tuple([bit for row in square for bit in row])


def square_of_bits(bits, n):
    """The square of n that has these bits."""
    return tuple([bits[first:first + n] for first in range(0, n * n, n)])


def all_squares(n):
    """The squares of n, at most 3, in the order of their bits."""
    return tuple([square_of_bits(bits, n) for bits in all_words(n * n)])


def check_square_pair(one, other):
    """Raise InvalidSquare unless both are squares of one n."""
    for square in (one, other):
        if not is_any_matrix(square):
            raise InvalidSquare(square)
    if len(other) != len(one):
        raise InvalidSquare(other)


def square_of(one, other):
    """The square of the products of one's bit i and other's bit j, at row i and place j."""
    check_word_pair(one, other)
    return tuple([tuple([left & right for right in other]) for left in one])


def added_squares(one, other):
    """The sum of two squares, row by row."""
    check_square_pair(one, other)
    return tuple([added(row, beside) for row, beside in zip(one, other)])


def square_product(one, other):
    """The sum of the products of the bits at like rows and places."""
    check_square_pair(one, other)
    return sum([product_of(row, beside) for row, beside in zip(one, other)]) & 1
