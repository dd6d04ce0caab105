"""Systems from clauses of at most three literals."""

from fourread.basics import first_none, is_place_with_bit
from fourread.errors import InvalidClause, InvalidWord, Undefined
from fourread.systems import System, check_unknowns, equation_of, multiplied_out
from fourread.words import check_length, is_word

LONGEST_CLAUSE = 3


def is_clause(value, n):
    """Whether value is a clause for words of n bits."""
    if not isinstance(value, tuple) or not 1 <= len(value) <= LONGEST_CLAUSE:
        return False
    return all([is_place_with_bit(literal, n) for literal in value])


def long_clauses(clauses):
    """The clauses of three literals, each of which has a further unknown."""
    return [clause for clause in clauses if len(clause) == LONGEST_CLAUSE]


def check_clauses(n, clauses):
    """Raise the error of the arguments that make no system, if they do not."""
    check_length(n)
    place = first_none(clauses, lambda at: is_clause(clauses[at], n))
    if place is not None:
        raise InvalidClause(place)
    check_unknowns(n + len(long_clauses(clauses)))


def literal_sum(literal):
    """The terms whose sum is 1 where the literal is true."""
    place, bit = literal
    return [(place,)] if bit == 1 else [(place,), ()]


def either(one, other):
    """The terms whose sum is 1 where the sum of the terms of one or of other is."""
    return one + other + multiplied_out(one, other)


def clause_equations(clause, further):
    """The equations of a clause, for which this further unknown stands if it has three literals."""
    sums = [literal_sum(literal) for literal in clause]
    if len(sums) == 1:
        return [equation_of(sums[0], 1)]
    first_two = either(sums[0], sums[1])
    if len(sums) == 2:
        return [equation_of(first_two, 1)]
    unknown = [(further,)]
    return [equation_of(unknown + first_two, 0), equation_of(either(unknown, sums[2]), 1)]


def clause_system(n, clauses):
    """The system whose solutions begin with the words of which all clauses are true."""
    check_clauses(n, clauses)
    equations = []
    further = n
    for clause in clauses:
        equations = equations + clause_equations(clause, further)
        if len(clause) == LONGEST_CLAUSE:
            further = further + 1
    return System(further, equations)


def is_one_true(literals, word):
    """Whether one of the literals is true of the word."""
    return any([word[place] == bit for place, bit in literals])


def clause_solution(n, clauses, word):
    """The solution of the clauses' system that begins with the word."""
    check_clauses(n, clauses)
    if not is_word(word, n):
        raise InvalidWord(word)
    if not all([is_one_true(clause, word) for clause in clauses]):
        raise Undefined("solution")
    return word + tuple([1 if is_one_true(clause[:2], word) else 0 for clause in long_clauses(clauses)])
