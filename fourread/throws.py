"""Throws: a kind and a tape, which tell what letters of a paper are read and when they pass."""

from fourread.basics import is_between, is_row_of_bits
from fourread.errors import InvalidNumber, InvalidTape, TooMany
from fourread.papers import check_paper
from fourread.squares import added_squares, square_of, square_of_bits
from fourread.words import added, all_words

LAST_KIND = 6
LONGEST_COUNTED_TAPE = 12


def tape_length(system, kind):
    """How many bits a tape of the kind has."""
    if not is_between(kind, 0, LAST_KIND):
        raise InvalidNumber(kind)
    word = system.n
    square = system.n * system.n
    if kind == LAST_KIND:
        return len(system) + square
    return (2 * word, 2 * square, 2 * word + square)[kind // 2]


def all_tapes(system, kind):
    """All tapes of the kind, ascending."""
    length = tape_length(system, kind)
    if length > LONGEST_COUNTED_TAPE:
        raise TooMany("tapes")
    return all_words(length)


def drawn_by(system, tape):
    """The sum of the squares, and that of the rights, of the equations that a tape of the last kind chooses."""
    return system.drawn(tape[:len(system)])


def words_of_sum(tape, n):
    """Two words, and their sum."""
    one, other = tape[:n], tape[n:]
    return (("f", one), ("f", other), ("f", added(one, other)))


def squares_of_sum(tape, n):
    """Two squares, and their sum."""
    one, other = square_of_bits(tape[:n * n], n), square_of_bits(tape[n * n:], n)
    return (("g", one), ("g", other), ("g", added_squares(one, other)))


def places_of_product(tape, n):
    """Two words, then a square and its sum with theirs."""
    one, other, square = tape[:n], tape[n:2 * n], square_of_bits(tape[2 * n:], n)
    return (("f", one), ("f", other), ("g", square), ("g", added_squares(square, square_of(one, other))))


def squares_of_drawn(system, tape):
    """A square, and its sum with the one drawn."""
    square = square_of_bits(tape[len(system):], system.n)
    beside, _ = drawn_by(system, tape)
    return (("g", square), ("g", added_squares(square, beside)))


def places_read(system, kind, tape):
    """The places of the letters that the throw reads, in their order."""
    if not is_row_of_bits(tape, tape_length(system, kind)):
        raise InvalidTape(tape)
    if kind == LAST_KIND:
        return squares_of_drawn(system, tape)
    readers = (words_of_sum, squares_of_sum, places_of_product)
    reader = readers[kind // 2]
    return reader(tape, system.n)


def letters_read(system, paper, kind, tape):
    """The letters that the throw reads, in their order."""
    places = places_read(system, kind, tape)
    return [paper.letter_f(place) if letter == "f" else paper.letter_g(place) for letter, place in places]


def is_passed(system, kind, tape, letters):
    """Whether the throw passes with these letters."""
    first, other, *rest = letters
    if kind == LAST_KIND:
        _, bit = drawn_by(system, tape)
        return first ^ other == bit
    joined = first ^ other if kind < 4 else first & other
    return joined == sum(rest) & 1


def passes(system, paper, kind, tape):
    """Whether the paper passes the throw."""
    check_paper(system, paper)
    return is_passed(system, kind, tape, letters_read(system, paper, kind, tape))


class Judge:
    """Throws one after another at one paper, and counts them."""

    def __init__(self, system, paper):
        check_paper(system, paper)
        self._system = system
        self._paper = paper
        self._thrown = 0
        self._refused = 0
        self._letters = 0

    def throw(self, kind, tape):
        """Whether the paper passes the throw."""
        letters = letters_read(self._system, self._paper, kind, tape)
        passed = is_passed(self._system, kind, tape, letters)
        self._thrown += 1
        self._letters += len(letters)
        if not passed:
            self._refused += 1
        return passed

    @property
    def thrown(self):
        """How many throws there were."""
        return self._thrown

    @property
    def refused(self):
        """How many of them did not pass."""
        return self._refused

    @property
    def letters(self):
        """How many letters they read."""
        return self._letters
