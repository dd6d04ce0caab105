"""Systems from colourings, whose solutions are the words of the colourings."""

from fourread.basics import LONGEST_WORD, first_none, is_behind, is_between
from fourread.errors import InvalidNumber, InvalidTie, InvalidWord
from fourread.systems import System, are_unknowns, check_unknowns, equation_of, multiplied_out
from fourread.words import check_length, is_any_word

MOST_COLOURS = 4


def is_tie(value, nodes):
    """Whether value is a pair of nodes, the lesser one first."""
    return are_unknowns(value, nodes) and len(value) == 2


def unlike_ends(i, j):
    """The equation that the nodes i and j have unlike colours."""
    firsts = [(2 * i,), (2 * j,), ()]
    seconds = [(2 * i + 1,), (2 * j + 1,), ()]
    return equation_of(multiplied_out(firsts, seconds), 0)


def colour_system(nodes, ties, colours):
    """The system of the colourings that have unlike colours at both ends of each tie."""
    check_length(nodes)
    place = first_none(ties, lambda at: is_tie(ties[at], nodes) and is_behind(ties, at))
    if place is not None:
        raise InvalidTie(place)
    if not is_between(colours, MOST_COLOURS - 1, MOST_COLOURS):
        raise InvalidNumber(colours)
    check_unknowns(2 * nodes)
    # The last of four colours is the one with both bits 1.
    fewer = nodes if colours < MOST_COLOURS else 0
    equations = [equation_of([(2 * node, 2 * node + 1)], 0) for node in range(fewer)]
    return System(2 * nodes, equations + [unlike_ends(i, j) for i, j in ties])


def colour_word(colouring):
    """The word that has for each colour its two bits."""
    if not isinstance(colouring, tuple) or not 1 <= len(colouring) <= LONGEST_WORD // 2:
        raise InvalidWord(colouring)
    if not all([is_between(colour, 0, MOST_COLOURS - 1) for colour in colouring]):
        raise InvalidWord(colouring)
    return tuple([bit for colour in colouring for bit in (colour >> 1, colour & 1)])


def colouring_of(word):
    """The colours whose bits are the word's."""
    if not is_any_word(word) or len(word) & 1:
        raise InvalidWord(word)
    return tuple([2 * first + second for first, second in zip(word[::2], word[1::2])])
