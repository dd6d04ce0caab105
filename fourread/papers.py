"""Papers: a letter f at each word of n bits and a letter g at each square of n."""

from fourread.basics import bits_number, first_none, is_behind, is_between, is_row_of_bits
from fourread.errors import InvalidPaper, InvalidSquare, InvalidWord, TooMany
from fourread.matrices import is_matrix
from fourread.squares import all_squares, square_bits, square_of, square_product
from fourread.words import all_words, is_any_word, is_word, number_of, product_of

LARGEST_WRITTEN = 3


def check_changed(part, values, is_one, n):
    """Raise InvalidPaper unless values is an ascending tuple of such of n."""
    if not isinstance(values, tuple):
        raise InvalidPaper(part, 0)
    place = first_none(values, lambda at: is_one(values[at], n) and is_behind(values, at))
    if place is not None:
        raise InvalidPaper(part, place)


class TablePaper:
    """A paper whose letters are written one by one, in the order of the words and of the squares."""

    def __init__(self, n, f, g):
        if not is_between(n, 1, LARGEST_WRITTEN):
            raise InvalidPaper("size", 0)
        if not is_row_of_bits(f, 1 << n):
            raise InvalidPaper("f", 0)
        if not is_row_of_bits(g, 1 << n * n):
            raise InvalidPaper("g", 0)
        self.n = n
        self.f = f
        self.g = g

    def __eq__(self, other):
        return isinstance(other, TablePaper) and self.n == other.n and self.f == other.f and self.g == other.g

    def letter_f(self, word):
        """The letter at the word."""
        if not is_word(word, self.n):
            raise InvalidWord(word)
        return self.f[number_of(word)]

    def letter_g(self, square):
        """The letter at the square."""
        if not is_matrix(square, self.n):
            raise InvalidSquare(square)
        return self.g[bits_number(square_bits(square))]


class SumsPaper:
    """A paper whose letters are products with a word and with a square, but changed at some words and squares."""

    def __init__(self, word, square, *, words=(), squares=()):
        if not is_any_word(word):
            raise InvalidPaper("word", 0)
        if not is_matrix(square, len(word)):
            raise InvalidPaper("square", 0)
        check_changed("words", words, is_word, len(word))
        check_changed("squares", squares, is_matrix, len(word))
        self.n = len(word)
        self.word = word
        self.square = square
        self.words = words
        self.squares = squares

    def __eq__(self, other):
        if not isinstance(other, SumsPaper) or self.word != other.word or self.square != other.square:
            return False
        return self.words == other.words and self.squares == other.squares

    def letter_f(self, word):
        """The letter at the word, which product_of refuses if it is none of n bits."""
        return product_of(self.word, word) ^ self.words.count(word)

    def letter_g(self, square):
        """The letter at the square, which square_product refuses if it is none of n."""
        return square_product(self.square, square) ^ self.squares.count(square)


def paper_of(word):
    """The paper of sums that belongs to the word."""
    if not is_any_word(word):
        raise InvalidPaper("word", 0)
    return SumsPaper(word, square_of(word, word))


def written(paper):
    """The paper that has the same letters, written one by one."""
    if paper.n > LARGEST_WRITTEN:
        raise TooMany("letters")
    f = tuple([paper.letter_f(word) for word in all_words(paper.n)])
    return TablePaper(paper.n, f, tuple([paper.letter_g(square) for square in all_squares(paper.n)]))


def check_paper(system, paper):
    """Raise InvalidPaper unless paper is one for the system's number of unknowns."""
    if not isinstance(paper, (TablePaper, SumsPaper)) or paper.n != system.n:
        raise InvalidPaper("size", 0)
