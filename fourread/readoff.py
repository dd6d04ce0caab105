"""Solutions that are read off a paper's letters at words."""

from fourread.errors import TooMany, Undefined
from fourread.mending import mended_bit
from fourread.nearest import nearest_sums
from fourread.papers import check_paper
from fourread.tables import LARGEST_TABLE, Table
from fourread.words import all_words, word_of


def table_of_words(system, paper):
    """The table of the letters that a paper for the system has at the words."""
    check_paper(system, paper)
    if paper.n > LARGEST_TABLE:
        raise TooMany("letters")
    return Table(paper.n, [paper.letter_f(word) for word in all_words(paper.n)])


def solution_read(system, paper):
    """The first word with a nearest sum that is a solution, or None."""
    for word in nearest_sums(table_of_words(system, paper)):
        if word in system:
            return word
    return None


def solution_mended(system, paper):
    """The solution whose bits are those mended at the units, or None."""
    table = table_of_words(system, paper)
    units = [word_of(table.n, 1 << place) for place in reversed(range(table.n))]
    try:
        word = tuple([mended_bit(table, unit) for unit in units])
    except Undefined:
        return None
    return word if word in system else None
