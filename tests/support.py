"""Checks and wrong values that the test files share."""

import inspect
import random
import unittest
from itertools import product

from fourread.errors import InvalidSystem, ReadError, TooMany
from fourread.papers import SumsPaper, TablePaper
from fourread.shares import Share
from fourread.systems import System
from fourread.tables import Table
from fourread.throws import Judge


def nested(value, deep):
    """The value within lists and tuples by turns, as deep as told."""
    for level in range(deep):
        value = [value] if level % 2 else (value,)
    return value


# Objects of the package that are equal to no other kind of value.
OBJECTS = [
    Share(0, 1), Share(1, 1), Share(1, 2), Table(1, (0, 1)), Table(2, (0, 1, 1, 0)), TooMany("letters"),
    System(1, []), System(2, [((), (0,), 1), (((0, 1),), (), 0)]), TablePaper(1, (0, 1), (0, 1)),
    SumsPaper((1,), ((1,),)), Judge(System(1, []), SumsPaper((1,), ((1,),))),
]

# Values of all kinds that are no integer.
NO_INTEGERS = [
    None, True, False, "", "1", "0", "word", (), (1,), (0, 1), ((1,),), [], [1], [0, 1], [[1], (0,)],
    nested(1, 10), InvalidSystem("size", 0), *OBJECTS,
]

# Tuples of two that are no words, each for a reason of its own.
NO_PAIRS_OF_BITS = [
    (0, 2), (2, 0), (-1, 0), (0, -1), (True, 0), (0, True), (False, 1), (1, False), (None, 0), (1, None),
    ("0", 1), (0, "1"), ((0,), 1), (0, (1,)), ([0], 1), (1, []), (10 ** 20, 0),
    (Share(1, 1), 1), (0, Share(0, 1)), (0, Table(1, (0, 1))), (TooMany("x"), 1),
]

# Values that are no word of whatever length.
NO_WORDS = [
    None, True, False, 0, 1, 2, -1, "", "0", "1", "01", "word", [], [0], [1], [0, 1], [1, 0, 1], [(0, 1)], (),
    (2,), (-1,), (True,), (False,), (None,), ("0",), ("01",), ((0,),), ((0, 1),), ([0],), (0,) * 13, (1,) * 13,
    (0, 1) * 10, (0, 1, 2), (1, 1, True), (0, 0, 0, None), (0,) * 11 + (2,), (True,) + (1,) * 11,
    nested(1, 10), nested((0, 1), 9), (Share(1, 1),), *OBJECTS, *NO_PAIRS_OF_BITS,
]

# Values that are no matrix of whatever size.
NO_MATRICES = [
    None, True, False, 0, 1, "", "1", "10", (), [], (0,), (1,), (1, 0), [(1,)], ([1],), [[1]], ((),), ((), ()), ((2,),),
    ((True,),), ((None,),), (("1",),), ("1",), (None,), ((1, 0),), ((1,), (0,)), ((1, 0), (0,)), ((1,), (0, 1)),
    ((1, 0), (0, 1), (1, 1)), ((1, 0, 0), (0, 1, 0)), [(1, 0), (0, 1)], ((1, 0), [0, 1]), ([1, 0], (0, 1)),
    ((1, 0), (0, True)), ((1, 0), (0, 2)), ((-1, 0), (0, 1)), ((1, 0), None), ((1, 0), "01"), (None, (0, 1)),
    ((0,) * 13,) * 13, ((0,) * 12,) * 13, ((0,) * 13,) * 12, (((1, 0), (0, 1)),), nested(1, 10),
    (Table(1, (0, 1)),), (Table(2, (1, 0, 0, 1)), (0, 1)), ((Share(1, 1),),), *OBJECTS,
]


def exactly(value):
    """A text that tells values apart that are equal but of unlike kinds, as 1 and True."""
    return repr(value)


def unit_matrix(n):
    """The matrix of n that changes no word."""
    return tuple(tuple(int(row == place) for place in range(n)) for row in range(n))


def random_word(dice, n):
    return tuple(dice.randrange(2) for _ in range(n))


def random_matrix(dice, n):
    return tuple(random_word(dice, n) for _ in range(n))


def random_turn(dice, n):
    """A matrix of n of rank n: rows of the unit matrix, mixed and added to one another."""
    rows = dice.sample(unit_matrix(n), n)
    for _ in range(3 * n if n > 1 else 0):
        i, j = dice.sample(range(n), 2)
        rows[j] = tuple((left + right) % 2 for left, right in zip(rows[i], rows[j]))
    return tuple(rows)


def matrices_of_lower_rank(n):
    """Matrices of n with two equal rows, with a row of zeros, and with a row that is the sum of two others."""
    rows = unit_matrix(n)
    found = [((0,) * n,) * n, ((0,) * n,) + rows[1:], rows[:-1] + ((0,) * n,)]
    if n > 1:
        found = found + [rows[:1] + rows[:1] + rows[2:], rows[:-2] + rows[-1:] * 2, ((1,) * n,) * n]
    if n > 2:
        found = found + [rows[:2] + ((1, 1) + (0,) * (n - 2),) + rows[3:]]
    return found


def random_table(dice, n):
    return Table(n, [dice.randrange(2) for _ in range(2 ** n)])


def some_tables(dice, n):
    """Tables of n: some that are or nearly are sums, some that have no order."""
    bits = [number.bit_count() % 2 for number in range(2 ** n)]
    found = [Table(n, (0,) * 2 ** n), Table(n, (1,) * 2 ** n), Table(n, bits), Table(n, [0] + [1] * (2 ** n - 1))]
    for many in (1, 2, 3):
        changed = list(bits)
        for number in range(many):
            changed[number * 5 % 2 ** n] ^= 1
        found.append(Table(n, changed))
    return found + [random_table(dice, n) for _ in range(4)]


def random_equation(dice, n):
    pairs = [(i, j) for i in range(n) for j in range(i + 1, n) if dice.randrange(3) == 0]
    return tuple(pairs), tuple(i for i in range(n) if dice.randrange(2)), dice.randrange(2)


def random_system(dice, n, many):
    return System(n, [random_equation(dice, n) for _ in range(many)])


def fits(word, equation):
    """Whether the word fits the equation, by the document's words."""
    pairs, singles, right = equation
    return (sum(word[i] * word[j] for i, j in pairs) + sum(word[i] for i in singles)) % 2 == right


def solutions_of(n, equations):
    return tuple(word for word in product((0, 1), repeat=n) if all(fits(word, equation) for equation in equations))


def words_of(n):
    return tuple(product((0, 1), repeat=n))


def square_from(bits, n):
    """The square whose rows behind one another are these bits."""
    return tuple(tuple(bits[n * row:n * row + n]) for row in range(n))


def squares_of(n):
    """All squares of n, in the order of their rows behind one another."""
    return tuple(square_from(bits, n) for bits in product((0, 1), repeat=n * n))


def plus(one, other):
    """The sum of two words, or of two squares."""
    return tuple((left + right) % 2 if isinstance(left, int) else plus(left, right) for left, right in zip(one, other))


def inner(one, other):
    """The sum of the products of the bits at like places of two words, or of two squares."""
    parts = [left * right if isinstance(left, int) else inner(left, right) for left, right in zip(one, other)]
    return sum(parts) % 2


def outer(one, other):
    return tuple(tuple(left * right for right in other) for left in one)


def some_of(dice, values, many):
    """So many of the values, at most, ascending."""
    return tuple(sorted(dice.sample(values, min(many, len(values)))))


def random_table_paper(dice, n):
    return TablePaper(n, random_word(dice, 2 ** n), random_word(dice, 2 ** (n * n)))


def random_changes(dice, n, many):
    """Words and squares of n to change, at most so many of each, ascending."""
    words = {random_word(dice, n) for _ in range(dice.randrange(many + 1))}
    squares = {random_matrix(dice, n) for _ in range(dice.randrange(many + 1))}
    return {"words": tuple(sorted(words)), "squares": tuple(sorted(squares))}


def random_sums_paper(dice, n, many):
    return SumsPaper(random_word(dice, n), random_matrix(dice, n), **random_changes(dice, n, many))


def drawn_from(n, equations, chosen):
    """The sum of the squares of the chosen equations and that of their rights, by the document's words."""
    square = [[0] * n for _ in range(n)]
    bit = 0
    for picked, (pairs, singles, right) in zip(chosen, equations):
        for i, j in [*pairs, *[(single, single) for single in singles]]:
            square[i][j] = (square[i][j] + picked) % 2
        bit = (bit + picked * right) % 2
    return tuple(map(tuple, square)), bit


def length_of_tapes(n, many, kind):
    """How many bits a tape of the kind has with so many equations, by the document's words."""
    return [2 * n, 2 * n, 2 * n * n, 2 * n * n, 2 * n + n * n, 2 * n + n * n, many + n * n][kind]


def throw_of(n, equations, kind, tape):
    """What a throw reads, and of the letters that it reads whether they pass, by the document's words."""
    size = n * n
    if kind in (0, 1):
        a, b = tape[:n], tape[n:]
        return [("f", a), ("f", b), ("f", plus(a, b))], lambda x, y, z: (x + y) % 2 == z
    if kind in (2, 3):
        a, b = square_from(tape[:size], n), square_from(tape[size:], n)
        return [("g", a), ("g", b), ("g", plus(a, b))], lambda x, y, z: (x + y) % 2 == z
    if kind in (4, 5):
        a, b, t = tape[:n], tape[n:2 * n], square_from(tape[2 * n:], n)
        places = [("f", a), ("f", b), ("g", t), ("g", plus(t, outer(a, b)))]
        return places, lambda x, y, z, w: x * y == (z + w) % 2
    many = len(equations)
    square, bit = drawn_from(n, equations, tape[:many])
    t = square_from(tape[many:], n)
    return [("g", t), ("g", plus(t, square))], lambda x, y: (x + y) % 2 == bit


def letters_of(paper, places):
    return [paper.letter_f(place) if letter == "f" else paper.letter_g(place) for letter, place in places]


# Sums of products of unknowns, as sets of terms, a term being a frozenset of unknowns; the empty one is 1.
ONE = {frozenset()}


def unknown(i):
    return {frozenset([i])}


def multiplied(one, other):
    """The product of two sums, with x x = x."""
    found = set()
    for left, right in product(one, other):
        found ^= {left | right}
    return found


def equation_that(terms, right):
    """The equation that the sum of the terms is right, with the 1 brought to the right side."""
    pairs = tuple(sorted(tuple(sorted(term)) for term in terms if len(term) == 2))
    singles = tuple(sorted(i for term in terms if len(term) == 1 for i in term))
    return pairs, singles, right ^ int(frozenset() in terms)


def dice_for(name):
    """Always the same throws for the same name."""
    return random.Random(name)


class Case(unittest.TestCase):
    def assert_exactly(self, found, wanted):
        self.assertEqual(exactly(found), exactly(wanted))

    def assert_raises(self, kind, attributes, call, *arguments, **named):
        """The call raises just this kind, with these very objects as attributes."""
        with self.assertRaises(ReadError) as caught:
            call(*arguments, **named)
        error = caught.exception
        self.assertIs(type(error), kind, (call, arguments, named))
        for name, wanted in attributes.items():
            if isinstance(wanted, str):
                self.assert_exactly(getattr(error, name), wanted)
            else:
                self.assertIs(getattr(error, name), wanted, (call, arguments, named))

    def assert_bits(self, table, n, bits):
        """It is the table of n with these bits."""
        self.assertIs(type(table), Table)
        self.assert_exactly((table.n, table.bits), (n, bits))

    def assert_system(self, system, n, equations):
        """It is the system of n with these equations."""
        self.assertIs(type(system), System)
        self.assert_exactly((system.n, system.equations), (n, tuple(equations)))

    def assert_interface(self, module, functions):
        """The module itself defines these functions, with parameters of these names."""
        for name, parameters in functions.items():
            function = vars(module)[name]
            self.assertTrue(inspect.isfunction(function), name)
            self.assertEqual(function.__module__, module.__name__, name)
            self.assertEqual(list(inspect.signature(function).parameters), parameters, name)
