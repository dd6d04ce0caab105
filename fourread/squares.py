"""Squares: matrices that are added and multiplied bit by bit."""

from fourread.errors import InvalidSquare
from fourread.matrices import is_any_matrix
from fourread.words import added, check_word_pair, product_of


def check_square_pair(one, other):
    """Raise InvalidSquare unless both are squares of one n."""
    for square in (one, other):
        if not is_any_matrix(square):
            raise InvalidSquare(square)
    if len(other) != len(one):
        raise InvalidSquare(other)


def square_of(one, other):
    """The square of the products of one's bit i and other's bit j, at row i and place j."""
    check_word_pair(one, other)
    return tuple([tuple([left & right for right in other]) for left in one])


def added_squares(one, other):
    """The sum of two squares, row by row."""
    check_square_pair(one, other)
    return tuple([added(row, beside) for row, beside in zip(one, other)])


def square_product(one, other):
    """The sum of the products of the bits at like rows and places."""
    check_square_pair(one, other)
    return sum([product_of(row, beside) for row, beside in zip(one, other)]) & 1
