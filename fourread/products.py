"""Systems from equations of any degree."""

from fourread.basics import first_none, is_between
from fourread.errors import InvalidTerm
from fourread.systems import System, are_unknowns, check_unknowns, equation_of, is_ascending
from fourread.words import check_length


def are_terms(value, n):
    """Whether value is an ascending tuple of terms: non-empty ascending tuples of numbers below n."""
    if not isinstance(value, tuple) or not all([are_unknowns(term, n) and len(term) > 0 for term in value]):
        return False
    return is_ascending(value)


def is_sum(value, n):
    """Whether value is a pair of terms and of the bit that their sum is."""
    if not isinstance(value, tuple) or len(value) != 2:
        return False
    terms, right = value
    return are_terms(terms, n) and is_between(right, 0, 1)


def further_unknowns(n, equations):
    """The further unknowns by the beginnings of terms that they stand for, in the order in which they first come."""
    further = {}
    for terms, _ in equations:
        for term in terms:
            for length in range(2, len(term)):
                beginning = term[:length]
                if beginning not in further:
                    further[beginning] = n + len(further)
    return further


def lowered(term, further):
    """The term as one of at most two unknowns."""
    # A further unknown has a greater number than the unknowns of the terms.
    return term if len(term) <= 2 else (term[-1], further[term[:-1]])


def lowered_system(n, equations):
    """The system whose solutions begin with the words of n bits that fit the equations."""
    check_length(n)
    place = first_none(equations, lambda at: is_sum(equations[at], n))
    if place is not None:
        raise InvalidTerm(place)
    further = further_unknowns(n, equations)
    check_unknowns(n + len(further))
    named = [equation_of([(further[beginning],), lowered(beginning, further)], 0) for beginning in further]
    sums = [equation_of([lowered(term, further) for term in terms], right) for terms, right in equations]
    return System(n + len(further), named + sums)
