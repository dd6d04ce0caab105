"""Systems of equations of degree two over bits."""

from fourread.basics import LONGEST_WORD, first_none, is_between, is_row_of_bits
from fourread.errors import InvalidNumber, InvalidSystem, InvalidWord, TooMany, Undefined
from fourread.words import all_words, is_word


def is_ascending(values):
    """Whether each value of a tuple is greater than the one before it."""
    return all([before < value for before, value in zip(values, values[1:])])


def are_unknowns(value, n):
    """Whether value is an ascending tuple of numbers of unknowns."""
    if not isinstance(value, tuple) or not all([is_between(number, 0, n - 1) for number in value]):
        return False
    return is_ascending(value)


def are_pairs(value, n):
    """Whether value is an ascending tuple of pairs of unknowns."""
    if not isinstance(value, tuple) or not all([are_unknowns(pair, n) and len(pair) == 2 for pair in value]):
        return False
    return is_ascending(value)


def is_equation(value, n):
    """Whether value is an equation between n unknowns."""
    if not isinstance(value, tuple) or len(value) != 3:
        return False
    pairs, singles, right = value
    return are_pairs(pairs, n) and are_unknowns(singles, n) and is_between(right, 0, 1)


def check_equations(n, equations):
    """Raise InvalidSystem unless equations is a sequence of equations between n unknowns."""
    place = first_none(equations, lambda at: is_equation(equations[at], n))
    if place is not None:
        raise InvalidSystem("equations", place)


def is_fitting(word, equation):
    """Whether the word fits the equation."""
    pairs, singles, right = equation
    total = sum([word[i] & word[j] for i, j in pairs]) + sum([word[i] for i in singles])
    return total & 1 == right


def check_unknowns(many):
    """Raise TooMany if a system can not have so many unknowns."""
    if many > LONGEST_WORD:
        raise TooMany("unknowns")


class System:
    """Equations between n unknowns."""

    def __init__(self, n, equations):
        if not is_between(n, 1, LONGEST_WORD):
            raise InvalidSystem("size", 0)
        check_equations(n, equations)
        self.n = n
        self.equations = tuple(equations)

    def __len__(self):
        return len(self.equations)

    def __contains__(self, x):
        return is_word(x, self.n) and self.first_wrong(x) is None

    def __eq__(self, other):
        return isinstance(other, System) and self.n == other.n and self.equations == other.equations

    def first_wrong(self, word):
        """The number of the first equation that the word does not fit, or None."""
        if not is_word(word, self.n):
            raise InvalidWord(word)
        for number, equation in enumerate(self.equations):
            if not is_fitting(word, equation):
                return number
        return None

    def solutions(self):
        """All solutions, ascending."""
        return tuple([word for word in all_words(self.n) if self.first_wrong(word) is None])

    def drawn(self, chosen):
        """The sum of the squares of the chosen equations, and that of their rights."""
        if not is_row_of_bits(chosen, len(self.equations)):
            raise InvalidWord(chosen)
        rows = [[0] * self.n for _ in range(self.n)]
        bit = 0
        for picked, (pairs, singles, right) in zip(chosen, self.equations):
            for i, j in pairs + tuple(zip(singles, singles)):
                rows[i][j] = rows[i][j] ^ picked
            bit = bit ^ (picked & right)
        return tuple([tuple(row) for row in rows]), bit


def in_one_alone(one, other):
    """The values that stand in just one of two tuples, ascending."""
    return tuple(sorted(set(one) ^ set(other)))


def row_added(system, i, j):
    """The system in which equation j is the sum of equations i and j."""
    for number in (i, j):
        if not is_between(number, 0, len(system) - 1):
            raise InvalidNumber(number)
    if i == j:
        raise Undefined("rows")
    pairs, singles, right = system.equations[i]
    beside_pairs, beside_singles, beside_right = system.equations[j]
    total = (in_one_alone(pairs, beside_pairs), in_one_alone(singles, beside_singles), right ^ beside_right)
    return System(system.n, system.equations[:j] + (total,) + system.equations[j + 1:])


def multiplied_out(one, other):
    """The terms of the product of two sums: ascending tuples of unknowns, of which the empty one is 1."""
    return [tuple(sorted(set(left + right))) for left in one for right in other]


def equation_of(terms, right):
    """The equation in which the sum of the terms is right."""
    odd = {}
    for term in terms:
        odd[term] = not odd.get(term, False)
    kept = sorted([term for term in odd if odd[term]])
    singles = tuple([term[0] for term in kept if len(term) == 1])
    return tuple([term for term in kept if len(term) == 2]), singles, (terms.count(()) & 1) ^ right
