"""[24]: the module making."""

import unittest
from itertools import product

from fourread import making
from fourread.errors import InvalidMatrix, InvalidNumber, TooMany, Undefined
from fourread.making import beside_systems, fixed_system, turned_system
from fourread.matrices import inverse_of, times
from fourread.systems import System
from tests.support import (
    Case, NO_INTEGERS, NO_MATRICES, ONE, dice_for, equation_that, matrices_of_lower_rank, multiplied, random_equation,
    random_system, random_turn, solutions_of, unit_matrix, unknown,
)

EQUATIONS = ((((0, 1), (1, 2)), (0,), 1), ((), (1, 2), 0), (((0, 2),), (), 0))


def sum_of(sums):
    found = set()
    for terms in sums:
        found = found ^ terms
    return found


def put_in(equations, sums):
    """The equations in which each unknown is the sum of these terms, multiplied out."""
    found = []
    for pairs, singles, right in equations:
        parts = [multiplied(sums[i], sums[j]) for i, j in pairs] + [sums[i] for i in singles]
        found.append(equation_that(sum_of(parts), right))
    return tuple(found)


def turned_equations(system, matrix):
    inverse = inverse_of(matrix)
    places = range(system.n)
    return put_in(system.equations, [sum_of([unknown(j) for j in places if inverse[j][i]]) for i in places])


def fixed_equations(system, place, bit):
    sums = [unknown(i) for i in range(place)] + [ONE if bit else set()]
    return put_in(system.equations, sums + [unknown(i) for i in range(place, system.n - 1)])


def some_systems(dice, most):
    """Systems of up to so many unknowns, with no equation and with some."""
    found = [System(n, [((), (), 0), ((), (), 1)]) for n in (1, 2, most)]
    return found + [random_system(dice, n, many) for n in range(1, most + 1) for many in (0, 1, 2, 4)]


class InterfaceTest(Case):
    def test_names(self):
        self.assert_interface(making, {
            "turned_system": ["system", "matrix"], "fixed_system": ["system", "place", "bit"],
            "beside_systems": ["one", "other"],
        })

    def test_arguments_by_name(self):
        system = System(2, [(((0, 1),), (), 1)])
        self.assert_system(turned_system(matrix=((1, 1), (0, 1)), system=system), 2, [(((0, 1),), (0,), 1)])
        self.assert_system(fixed_system(bit=1, place=0, system=system), 1, [((), (0,), 1)])
        found = beside_systems(other=System(1, [((), (0,), 0)]), one=system)
        self.assert_system(found, 3, [(((0, 1),), (), 1), ((), (2,), 0)])


class TurnedTest(Case):
    def assert_turned(self, system, matrix):
        n, equations = system.n, system.equations
        found = turned_system(system, matrix)
        self.assert_system(found, n, turned_equations(system, matrix))
        self.assert_system(system, n, equations)
        wanted = sorted(times(word, matrix) for word in solutions_of(n, equations))
        self.assert_exactly(solutions_of(n, found.equations), tuple(wanted))

    def test_all_matrices_of_few_unknowns(self):
        dice = dice_for("turned_system")
        for n in (1, 2):
            for matrix in product(product((0, 1), repeat=n), repeat=n):
                system = random_system(dice, n, 3)
                if matrix in [((1,),), ((1, 0), (0, 1)), ((0, 1), (1, 0))] or n == 2 and sum(map(sum, matrix)) == 3:
                    self.assert_turned(system, matrix)
                else:
                    self.assert_raises(InvalidMatrix, {"value": matrix}, turned_system, system, matrix)

    def test_more_unknowns(self):
        dice = dice_for("turned_system of more")
        for system in some_systems(dice, 8):
            self.assert_turned(system, random_turn(dice, system.n))
            self.assert_system(turned_system(system, unit_matrix(system.n)), system.n, system.equations)

    def test_twelve_unknowns(self):
        dice = dice_for("turned_system of twelve")
        system = System(12, [random_equation(dice, 12) for _ in range(12)])
        matrix = random_turn(dice, 12)
        self.assert_system(turned_system(system, matrix), 12, turned_equations(system, matrix))
        back = turned_system(turned_system(system, matrix), inverse_of(matrix))
        self.assert_system(back, 12, system.equations)
        for word in (system.solutions() + ((0, 1) * 6,))[:3]:
            self.assert_exactly(times(word, matrix) in turned_system(system, matrix), word in system)

    def test_examples(self):
        # x0 = y0, x1 = y0 + y1: x0 x1 becomes y0 + y0 y1.
        self.assertEqual(inverse_of(((1, 1), (0, 1))), ((1, 1), (0, 1)))
        system = System(2, [(((0, 1),), (1,), 1), ((), (0, 1), 0), ((), (), 1)])
        wanted = [(((0, 1),), (1,), 1), ((), (1,), 0), ((), (), 1)]
        self.assert_system(turned_system(system, ((1, 1), (0, 1))), 2, wanted)
        # y0 = x2, y1 = x0, y2 = x1.
        matrix = ((0, 1, 0), (0, 0, 1), (1, 0, 0))
        wanted = [(((0, 2), (1, 2)), (1,), 1), ((), (0, 2), 0), (((0, 1),), (), 0)]
        self.assert_system(turned_system(System(3, EQUATIONS), matrix), 3, wanted)

    def test_wrong_matrices(self):
        for n in (1, 2, 3, 7, 12):
            system = System(n, [((), (0,), 1)])
            others = [unit_matrix(size) for size in range(1, 13) if size != n]
            lists = [list(unit_matrix(n)), tuple(map(list, unit_matrix(n))), [list(row) for row in unit_matrix(n)]]
            for value in [*NO_MATRICES, *others, *lists, *matrices_of_lower_rank(n)]:
                self.assert_raises(InvalidMatrix, {"value": value}, turned_system, system, value)


class FixedTest(Case):
    def assert_fixed(self, system, place, bit):
        n, equations = system.n, system.equations
        found = fixed_system(system, place, bit)
        self.assert_system(found, n - 1, fixed_equations(system, place, bit))
        self.assert_system(system, n, equations)
        solutions = [word for word in solutions_of(n, equations) if word[place] == bit]
        wanted = tuple(word[:place] + word[place + 1:] for word in solutions)
        self.assert_exactly(solutions_of(n - 1, found.equations), wanted)

    def test_all_places_and_bits(self):
        dice = dice_for("fixed_system")
        for system in some_systems(dice, 7):
            for place in range(system.n) if system.n > 1 else ():
                for bit in (0, 1):
                    self.assert_fixed(system, place, bit)

    def test_twelve_unknowns(self):
        dice = dice_for("fixed_system of twelve")
        system = random_system(dice, 12, 5)
        for place in (0, 5, 11):
            for bit in (0, 1):
                self.assert_fixed(system, place, bit)

    def test_examples(self):
        system = System(3, EQUATIONS)
        self.assert_system(fixed_system(system, 0, 1), 2, [(((0, 1),), (0,), 0), ((), (0, 1), 0), ((), (1,), 0)])
        self.assert_system(fixed_system(system, 1, 0), 2, [((), (0,), 1), ((), (1,), 0), (((0, 1),), (), 0)])
        self.assert_system(fixed_system(system, 1, 1), 2, [((), (1,), 1), ((), (1,), 1), (((0, 1),), (), 0)])
        self.assert_system(fixed_system(system, 2, 1), 2, [(((0, 1),), (0, 1), 1), ((), (1,), 1), ((), (0,), 0)])

    def test_wrong_places_come_first(self):
        for n in (1, 2, 3, 12):
            system = System(n, [((), (0,), 1)])
            for place in [-1, n, n + 1, -n, 12, 2 ** 70, *NO_INTEGERS]:
                for bit in (0, 1, 2, None):
                    self.assert_raises(InvalidNumber, {"value": place}, fixed_system, system, place, bit)

    def test_wrong_bits(self):
        for n in (1, 2, 3, 12):
            system = System(n, [((), (0,), 1)])
            for bit in [2, -1, 2 ** 70, *NO_INTEGERS]:
                for place in (0, n - 1):
                    self.assert_raises(InvalidNumber, {"value": bit}, fixed_system, system, place, bit)

    def test_one_unknown_alone(self):
        for equations in ([], [((), (0,), 1)], [((), (), 1)]):
            for bit in (0, 1):
                self.assert_raises(Undefined, {"what": "system"}, fixed_system, System(1, equations), 0, bit)


class BesideTest(Case):
    def assert_beside(self, one, other):
        equations = one.equations, other.equations
        found = beside_systems(one, other)
        behind = [unknown(i) for i in range(one.n, one.n + other.n)]
        self.assert_system(found, one.n + other.n, one.equations + put_in(other.equations, behind))
        self.assert_exactly((one.equations, other.equations), equations)
        pairs = product(solutions_of(one.n, one.equations), solutions_of(other.n, other.equations))
        self.assert_exactly(found.solutions(), tuple(first + second for first, second in pairs))

    def test_all_sizes(self):
        dice = dice_for("beside_systems")
        for n in range(1, 5):
            for beside in range(1, 5):
                for many in (0, 1, 3):
                    self.assert_beside(random_system(dice, n, many), random_system(dice, beside, 3 - many))

    def test_twelve_unknowns_together(self):
        dice = dice_for("twelve together")
        for n in (1, 6, 11):
            self.assert_beside(random_system(dice, n, 3), random_system(dice, 12 - n, 3))

    def test_a_system_beside_itself(self):
        self.assert_beside(System(3, EQUATIONS), System(3, EQUATIONS))
        system = System(2, [(((0, 1),), (1,), 1)])
        self.assert_system(beside_systems(system, system), 4, [(((0, 1),), (1,), 1), (((2, 3),), (3,), 1)])

    def test_more_than_twelve_unknowns(self):
        for n in range(1, 13):
            for beside in range(13 - n, 13):
                for equations in ([], [((), (0,), 1)]):
                    one, other = System(n, equations), System(beside, equations)
                    self.assert_raises(TooMany, {"what": "unknowns"}, beside_systems, one, other)


class SentencesTest(Case):
    def test_solutions(self):
        dice = dice_for("solutions of made systems")
        for n in range(2, 7):
            for many in (0, 1, 2):
                system, beside = random_system(dice, n, many), random_system(dice, 6 - n // 2, 1)
                matrix = random_turn(dice, n)
                found = turned_system(system, matrix).solutions()
                self.assert_exactly(found, tuple(sorted(times(word, matrix) for word in system.solutions())))
                place, bit = dice.randrange(n), dice.randrange(2)
                wanted = [word[:place] + word[place + 1:] for word in system.solutions() if word[place] == bit]
                self.assert_exactly(fixed_system(system, place, bit).solutions(), tuple(wanted))
                wanted = [one + other for one in system.solutions() for other in beside.solutions()]
                self.assert_exactly(beside_systems(system, beside).solutions(), tuple(wanted))


if __name__ == "__main__":
    unittest.main()
