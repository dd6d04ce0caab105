"""Tables that rise: no bit goes from 1 to 0 where one bit of the word goes from 0 to 1."""

from fourread.basics import is_between
from fourread.errors import InvalidNumber, TooMany
from fourread.tables import Table
from fourread.words import all_words

LARGEST_CHANGED = 3


def step_at(table, place):
    """By how much the number of a word grows if its bit at the place becomes 1."""
    return 1 << (table.n - 1 - place)


def is_broken(bits, number, step):
    """Whether the edge from the word of this number, by this step, is one and is broken."""
    return number & step == 0 and bits[number] > bits[number + step]


def broken_edges(table):
    """The edges (word, place) that are broken in the table, ascending."""
    steps = [step_at(table, place) for place in range(table.n)]
    return tuple([
        (word, place) for number, word in enumerate(all_words(table.n)) for place, step in enumerate(steps)
        if is_broken(table.bits, number, step)
    ])


def sorted_along(table, place):
    """The table with the bits of each broken edge at the place exchanged."""
    if not is_between(place, 0, table.n - 1):
        raise InvalidNumber(place)
    step = step_at(table, place)
    bits = list(table.bits)
    for number in range(len(bits)):
        if is_broken(table.bits, number, step):
            bits[number], bits[number + step] = 0, 1
    return Table(table.n, bits)


def sorted_table(table):
    """The table sorted along all places, one after another."""
    found = table
    for place in range(table.n):
        found = sorted_along(found, place)
    return found


def rising_rows(n):
    """The bits of all tables of n that rise, where those of 0 are just one bit."""
    if n == 0:
        return [(0,), (1,)]
    halves = rising_rows(n - 1)
    # The words of the first half begin with 0, those of the second with 1; the rest of both is alike.
    return [
        first + second for first in halves for second in halves
        if all([before <= behind for before, behind in zip(first, second)])
    ]


def least_changes(table):
    """The least number of bits to change so that the table rises."""
    if table.n > LARGEST_CHANGED:
        raise TooMany("letters")
    return min([sum([kept ^ bit for kept, bit in zip(table.bits, bits)]) for bits in rising_rows(table.n)])
