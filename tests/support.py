"""Checks and wrong values that the test files share."""

import inspect
import random
import unittest
from itertools import product

from fourread.errors import InvalidSystem, ReadError, TooMany
from fourread.shares import Share
from fourread.systems import System
from fourread.tables import Table


def nested(value, deep):
    """The value within lists and tuples by turns, as deep as told."""
    for level in range(deep):
        value = [value] if level % 2 else (value,)
    return value


# Objects of the package that are equal to no other kind of value.
OBJECTS = [
    Share(0, 1), Share(1, 1), Share(1, 2), Table(1, (0, 1)), Table(2, (0, 1, 1, 0)), TooMany("letters"),
    System(1, []), System(2, [((), (0,), 1), (((0, 1),), (), 0)]),
]

# Values of all kinds that are no integer.
NO_INTEGERS = [
    None, True, False, "", "1", "0", "word", (), (1,), (0, 1), ((1,),), [], [1], [0, 1], [[1], (0,)],
    nested(1, 10), InvalidSystem("size", 0), *OBJECTS,
]

# Tuples of two that are no words, each for a reason of its own.
NO_PAIRS_OF_BITS = [
    (0, 2), (2, 0), (-1, 0), (0, -1), (True, 0), (0, True), (False, 1), (1, False), (None, 0), (1, None),
    ("0", 1), (0, "1"), ((0,), 1), (0, (1,)), ([0], 1), (1, []), (10 ** 20, 0),
    (Share(1, 1), 1), (0, Share(0, 1)), (0, Table(1, (0, 1))), (TooMany("x"), 1),
]

# Values that are no word of whatever length.
NO_WORDS = [
    None, True, False, 0, 1, 2, -1, "", "0", "1", "01", "word", [], [0], [1], [0, 1], [1, 0, 1], [(0, 1)], (),
    (2,), (-1,), (True,), (False,), (None,), ("0",), ("01",), ((0,),), ((0, 1),), ([0],), (0,) * 13, (1,) * 13,
    (0, 1) * 10, (0, 1, 2), (1, 1, True), (0, 0, 0, None), (0,) * 11 + (2,), (True,) + (1,) * 11,
    nested(1, 10), nested((0, 1), 9), (Share(1, 1),), *OBJECTS, *NO_PAIRS_OF_BITS,
]

# Values that are no matrix of whatever size.
NO_MATRICES = [
    None, True, False, 0, 1, "", "1", "10", (), [], (0,), (1,), (1, 0), [(1,)], ([1],), [[1]], ((),), ((), ()), ((2,),),
    ((True,),), ((None,),), (("1",),), ("1",), (None,), ((1, 0),), ((1,), (0,)), ((1, 0), (0,)), ((1,), (0, 1)),
    ((1, 0), (0, 1), (1, 1)), ((1, 0, 0), (0, 1, 0)), [(1, 0), (0, 1)], ((1, 0), [0, 1]), ([1, 0], (0, 1)),
    ((1, 0), (0, True)), ((1, 0), (0, 2)), ((-1, 0), (0, 1)), ((1, 0), None), ((1, 0), "01"), (None, (0, 1)),
    ((0,) * 13,) * 13, ((0,) * 12,) * 13, ((0,) * 13,) * 12, (((1, 0), (0, 1)),), nested(1, 10),
    (Table(1, (0, 1)),), (Table(2, (1, 0, 0, 1)), (0, 1)), ((Share(1, 1),),), *OBJECTS,
]


def exactly(value):
    """A text that tells values apart that are equal but of unlike kinds, as 1 and True."""
    return repr(value)


def unit_matrix(n):
    """The matrix of n that changes no word."""
    return tuple(tuple(int(row == place) for place in range(n)) for row in range(n))


def random_word(dice, n):
    return tuple(dice.randrange(2) for _ in range(n))


def random_matrix(dice, n):
    return tuple(random_word(dice, n) for _ in range(n))


def random_table(dice, n):
    return Table(n, [dice.randrange(2) for _ in range(2 ** n)])


def some_tables(dice, n):
    """Tables of n: some that are or nearly are sums, some that have no order."""
    bits = [number.bit_count() % 2 for number in range(2 ** n)]
    found = [Table(n, (0,) * 2 ** n), Table(n, (1,) * 2 ** n), Table(n, bits), Table(n, [0] + [1] * (2 ** n - 1))]
    for many in (1, 2, 3):
        changed = list(bits)
        for number in range(many):
            changed[number * 5 % 2 ** n] ^= 1
        found.append(Table(n, changed))
    return found + [random_table(dice, n) for _ in range(4)]


def random_equation(dice, n):
    pairs = [(i, j) for i in range(n) for j in range(i + 1, n) if dice.randrange(3) == 0]
    return tuple(pairs), tuple(i for i in range(n) if dice.randrange(2)), dice.randrange(2)


def random_system(dice, n, many):
    return System(n, [random_equation(dice, n) for _ in range(many)])


def fits(word, equation):
    """Whether the word fits the equation, by the document's words."""
    pairs, singles, right = equation
    return (sum(word[i] * word[j] for i, j in pairs) + sum(word[i] for i in singles)) % 2 == right


def solutions_of(n, equations):
    return tuple(word for word in product((0, 1), repeat=n) if all(fits(word, equation) for equation in equations))


# Sums of products of unknowns, as sets of terms, a term being a frozenset of unknowns; the empty one is 1.
ONE = {frozenset()}


def unknown(i):
    return {frozenset([i])}


def multiplied(one, other):
    """The product of two sums, with x x = x."""
    found = set()
    for left, right in product(one, other):
        found ^= {left | right}
    return found


def equation_that(terms, right):
    """The equation that the sum of the terms is right, with the 1 brought to the right side."""
    pairs = tuple(sorted(tuple(sorted(term)) for term in terms if len(term) == 2))
    singles = tuple(sorted(i for term in terms if len(term) == 1 for i in term))
    return pairs, singles, right ^ int(frozenset() in terms)


def dice_for(name):
    """Always the same throws for the same name."""
    return random.Random(name)


class Case(unittest.TestCase):
    def assert_exactly(self, found, wanted):
        self.assertEqual(exactly(found), exactly(wanted))

    def assert_raises(self, kind, attributes, call, *arguments, **named):
        """The call raises just this kind, with these very objects as attributes."""
        with self.assertRaises(ReadError) as caught:
            call(*arguments, **named)
        error = caught.exception
        self.assertIs(type(error), kind, (call, arguments, named))
        for name, wanted in attributes.items():
            if isinstance(wanted, str):
                self.assert_exactly(getattr(error, name), wanted)
            else:
                self.assertIs(getattr(error, name), wanted, (call, arguments, named))

    def assert_bits(self, table, n, bits):
        """It is the table of n with these bits."""
        self.assertIs(type(table), Table)
        self.assert_exactly((table.n, table.bits), (n, bits))

    def assert_system(self, system, n, equations):
        """It is the system of n with these equations."""
        self.assertIs(type(system), System)
        self.assert_exactly((system.n, system.equations), (n, tuple(equations)))

    def assert_interface(self, module, functions):
        """The module itself defines these functions, with parameters of these names."""
        for name, parameters in functions.items():
            function = vars(module)[name]
            self.assertTrue(inspect.isfunction(function), name)
            self.assertEqual(function.__module__, module.__name__, name)
            self.assertEqual(list(inspect.signature(function).parameters), parameters, name)
