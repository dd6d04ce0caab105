"""Exact shares of the throws that a paper does not pass.

Every paper is taken as one of sums with changed letters. Kinds 4 to 6 draw a square, the shift, and read g at some
square and at this one added. If g is changed at neither or at both, the draw alone tells whether the throw passes;
if at one of them, the contrary holds. So it is enough to know the balance of draws (how many more of them pass than
do not, without changes of g): that of all draws, and that of the draws of each shift between changed squares.
"""

from fourread.basics import bits_number, chosen_sums, independent, is_between, power, reduced
from fourread.errors import InvalidNumber, InvalidPaper
from fourread.papers import SumsPaper, check_paper
from fourread.shares import Share
from fourread.signed import sums_with_signs
from fourread.squares import all_squares, square_bits, square_product
from fourread.words import all_words, number_of, word_of

KINDS = 7
MOST_THROWS = 30


def sums_paper_of(paper):
    """The SumsPaper that has the same letters."""
    if isinstance(paper, SumsPaper):
        return paper
    zero = (0,) * paper.n
    words = tuple([word for word, letter in zip(all_words(paper.n), paper.f) if letter == 1])
    squares = tuple([square for square, letter in zip(all_squares(paper.n), paper.g) if letter == 1])
    return SumsPaper(zero, (zero,) * paper.n, words=words, squares=squares)


def square_number(square):
    """The number of a square among those of its n."""
    return bits_number(square_bits(square))


def square_numbered(n, number):
    """The square of n that has this number."""
    return tuple([word_of(n, (number >> n * row) & ((1 << n) - 1)) for row in reversed(range(n))])


def shifts_between(changed):
    """How many ordered pairs of these numbers have each sum, bit by bit."""
    many = {}
    for one in changed:
        for other in changed:
            many[one ^ other] = many.get(one ^ other, 0) + 1
    return many


def sum_share(changed, shifts, size):
    """The share of the pairs of all places at which a sum that is changed at these places does not add up."""
    many = len(changed)
    triples = sum([shifts.get(number, 0) for number in changed])
    return Share(3 * many * size - 6 * many * many + 4 * triples, size * size)


def shifted_share(paper, draws, whole, between):
    """The share that does not pass, if so many draws have this balance.

    between is the sum of the balances of the draws by which each changed square is shifted to each changed square.
    """
    size = 1 << paper.n * paper.n
    # A draw meets one changed square alone at twice as many squares as there are changed ones that it does not shift
    # to changed ones; with the balances on both sides all is doubled.
    return Share(size * (draws - whole) + 4 * (len(paper.squares) * whole - between), 2 * draws * size)


def letters_at_words(paper):
    """The letters f at all words, in order."""
    letters = chosen_sums(paper.word)
    for word in paper.words:
        letters[number_of(word)] = 1 - letters[number_of(word)]
    return letters


def balances_of_words(paper, letters):
    """For each word in order, the balance of the pairs of words that begin with it."""
    size = len(letters)
    by_letter = ([size] + [0] * (size - 1), sums_with_signs([1 - 2 * letter for letter in letters]))
    sums = chosen_sums([number_of(row) for row in paper.square])
    return [by_letter[letter][number] for letter, number in zip(letters, sums)]


def factors_of(square):
    """The two words, neither of them the zero word, that have this square, or None."""
    rows = sorted(set([row for row in square if 1 in row]))
    return (tuple([max(row) for row in square]), rows[0]) if len(rows) == 1 else None


def pair_balance(paper, square):
    """The balance of the pairs of words, neither of them the zero word, that have this square."""
    factors = factors_of(square)
    if factors is None:
        return 0
    one, other = factors
    joined = paper.letter_f(one) & paper.letter_f(other)
    return 1 - 2 * (joined ^ square_product(paper.square, square))


def product_share(paper, shifts):
    """The share of kind 4, and of kind 5, that does not pass."""
    letters = letters_at_words(paper)
    balances = balances_of_words(paper, letters)
    # With the zero word as one of both there is no shift; the pair of two zero words is counted once.
    unshifted = 2 * balances[0] - (1 - 2 * letters[0])
    between = len(paper.squares) * unshifted
    for shift in shifts:
        between = between + shifts[shift] * pair_balance(paper, square_numbered(paper.n, shift))
    return shifted_share(paper, len(letters) * len(letters), sum(balances), between)


def drawn_alone(system):
    """The square and the right of each equation."""
    many = len(system)
    return [system.drawn((0,) * k + (1,) + (0,) * (many - 1 - k)) for k in range(many)]


def drawn_share(system, paper, shifts):
    """The share of kind 6 that does not pass."""
    # Behind the bits of each square stands a 1 if a throw that draws it does not pass, without changes of g.
    kept = independent([
        2 * square_number(square) + (square_product(paper.square, square) ^ right)
        for square, right in drawn_alone(system)
    ])
    draws = 1 << len(system)
    whole = draws if all([number & 1 == 0 for number in kept]) else 0
    # If a choice that draws no square does not pass, as many draws of each shift pass as do not.
    alike = 0 if 1 in kept else draws >> len(kept)
    between = 0
    for shift in shifts:
        rest = reduced(2 * shift, kept)
        if rest < 2:
            between = between + shifts[shift] * alike * (1 - 2 * rest)
    return shifted_share(paper, draws, whole, between)


def refused_by_kind(system, paper):
    """For each kind, the share of its tapes with which the paper does not pass."""
    check_paper(system, paper)
    sums = sums_paper_of(paper)
    words = [number_of(word) for word in sums.words]
    squares = [square_number(square) for square in sums.squares]
    shifts = shifts_between(squares)
    of_words = sum_share(words, shifts_between(words), 1 << sums.n)
    of_squares = sum_share(squares, shifts, 1 << sums.n * sums.n)
    of_products = product_share(sums, shifts)
    return of_words, of_words, of_squares, of_squares, of_products, of_products, drawn_share(system, sums, shifts)


def refused_share(system, paper):
    """The mean of the shares of all kinds."""
    total = Share(0, 1)
    for share in refused_by_kind(system, paper):
        total = total + share
    return total * Share(1, KINDS)


def nearly_share(paper):
    """The share below which the paper of a solution with so many changes is refused, or which it just has."""
    if not isinstance(paper, SumsPaper):
        raise InvalidPaper("paper", 0)
    of_words = Share(10 * len(paper.words), KINDS << paper.n)
    return of_words + Share(12 * len(paper.squares), KINDS << paper.n * paper.n)


def passing_bound(many):
    """The share of rows of so many throws, at most, that a paper without a solution passes throughout."""
    if not is_between(many, 0, MOST_THROWS):
        raise InvalidNumber(many)
    return Share(power(13, many), power(14, many))
