"""Systems made from other systems."""

from fourread.basics import is_between
from fourread.errors import InvalidNumber, Undefined
from fourread.matrices import check_invertible, inverse_of
from fourread.systems import System, check_unknowns, equation_of, multiplied_out


def with_sums(system, n, sums):
    """The system of n unknowns that has for each of the old unknowns the sum of these terms."""
    equations = []
    for pairs, singles, right in system.equations:
        terms = [term for i, j in pairs for term in multiplied_out(sums[i], sums[j])]
        equations.append(equation_of(terms + [term for i in singles for term in sums[i]], right))
    return System(n, equations)


def turned_system(system, matrix):
    """The system whose solutions are times(x, matrix) for the solutions x."""
    check_invertible(matrix, system.n)
    places = range(system.n)
    inverse = inverse_of(matrix)
    return with_sums(system, system.n, [[(j,) for j in places if inverse[j][i] == 1] for i in places])


def fixed_system(system, place, bit):
    """The system of the solutions that have the bit at the place, which is left out."""
    if not is_between(place, 0, system.n - 1):
        raise InvalidNumber(place)
    if not is_between(bit, 0, 1):
        raise InvalidNumber(bit)
    if system.n == 1:
        raise Undefined("system")
    fixed = [()] if bit == 1 else []
    kept = [[(i,)] for i in range(system.n - 1)]
    return with_sums(system, system.n - 1, kept[:place] + [fixed] + kept[place:])


def beside_systems(one, other):
    """The system of the solutions of one followed by those of other."""
    many = one.n + other.n
    check_unknowns(many)
    behind = with_sums(other, many, [[(i,)] for i in range(one.n, many)])
    return System(many, one.equations + behind.equations)
