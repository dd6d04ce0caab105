"""[16]: the module clauses."""

import unittest
from itertools import product

from fourread import clauses as module
from fourread.clauses import clause_solution, clause_system
from fourread.errors import InvalidClause, InvalidNumber, InvalidWord, TooMany, Undefined
from fourread.shares import Share
from fourread.systems import System
from fourread.tables import Table
from fourread.words import all_words
from tests.support import (
    Case, NO_INTEGERS, NO_WORDS, OBJECTS, ONE, dice_for, equation_that, multiplied, nested, random_word, unknown,
)

NO_SIZES = [0, 13, -1, -12, 2 ** 70, *NO_INTEGERS]

LONG = ((0, 1), (0, 0), (0, 1))


def literals(n):
    return list(product(range(n), (0, 1)))


def all_clauses(n):
    return [clause for many in (1, 2, 3) for clause in product(literals(n), repeat=many)]


def random_clauses(dice, n, many):
    """Clauses of which at most 12 - n have three literals."""
    found = []
    for _ in range(many):
        longest = 3 if sum(len(clause) == 3 for clause in found) < 12 - n else 2
        found.append(tuple(dice.choice(literals(n)) for _ in range(dice.randrange(1, longest + 1))))
    return found


def literal_sum(literal):
    place, bit = literal
    return unknown(place) if bit == 1 else unknown(place) ^ ONE


def either(one, other):
    return one ^ other ^ multiplied(one, other)


def equations_of(n, clauses):
    """The equations of the clauses, by the document's words."""
    found, further = [], n
    for clause in clauses:
        sums = [literal_sum(literal) for literal in clause]
        if len(clause) == 1:
            found.append(equation_that(sums[0], 1))
        elif len(clause) == 2:
            found.append(equation_that(either(sums[0], sums[1]), 1))
        else:
            y = unknown(further)
            found.append(equation_that(y ^ either(sums[0], sums[1]), 0))
            found.append(equation_that(either(y, sums[2]), 1))
            further += 1
    return further, found


def all_true(clauses, word):
    return all(any(word[place] == bit for place, bit in clause) for clause in clauses)


def wrong_clauses():
    """Values that are no clause for words of three bits, each for a reason of its own."""
    wrong = [
        None, True, False, 0, 1, "", "ab", (), [], (0,), (0, 1), (0, 1, 1), ((0, 1, 1),), ((),), ((0,),), [(0, 1)],
        [(0, 1), (1, 1)], ([0, 1],), ((0, 1), [1, 1]), ((0, 1), None), (None, (0, 1)), ((0, 1),) * 4, ((0, 1),) * 5,
        ((3, 1),), ((-1, 1),), ((0, 1), (3, 0)), ((0, 1), (1, 0), (-1, 0)), ((12, 0),), ((2 ** 70, 0),), (((0, 1),),),
        "01", ("01",), ((0, 1), "01"), ((0, 1), (1,)), ((0, 1), ()), ((0, 1), 1), nested((0, 1), 8), *OBJECTS,
    ]
    values = [True, False, None, "0", "", (), (0,), [], [1], Share(0, 1), Share(1, 1), Table(1, (0, 1))]
    for value in [*values, 2, -1, 2 ** 70]:
        wrong = wrong + [((0, value),), ((0, 1), (1, value)), ((0, 1), (1, 0), (2, value))]
    for value in values:
        wrong = wrong + [((value, 1),), ((value, 0), (0, 1))]
    return wrong


class InterfaceTest(Case):
    def test_names(self):
        self.assert_interface(module, {
            "clause_system": ["n", "clauses"], "clause_solution": ["n", "clauses", "word"],
        })

    def test_arguments_by_name(self):
        self.assert_system(clause_system(clauses=[((1, 1),)], n=2), 2, [((), (1,), 1)])
        self.assert_exactly(clause_solution(word=(1, 0), clauses=[LONG], n=2), (1, 0, 1))


class ClauseSystemTest(Case):
    def test_each_clause_alone(self):
        for n in (1, 2, 3):
            for clause in all_clauses(n):
                self.assert_clauses(n, [clause])

    def test_some_clauses_together(self):
        dice = dice_for("clauses")
        for n in range(1, 13):
            for many in (0, 2, 3, 5, 40):
                self.assert_clauses(n, random_clauses(dice, n, many))

    def test_examples(self):
        for n, clauses, size, equations in (
            (1, [((0, 1),)], 1, [((), (0,), 1)]),
            (1, [((0, 0),)], 1, [((), (0,), 0)]),
            (2, [((0, 1), (1, 1))], 2, [(((0, 1),), (0, 1), 1)]),
            (2, [((1, 0), (0, 0))], 2, [(((0, 1),), (), 0)]),
            (2, [((0, 1), (1, 0))], 2, [(((0, 1),), (1,), 0)]),
            (3, [((0, 1), (1, 1), (2, 1))], 4, [(((0, 1),), (0, 1, 3), 0), (((2, 3),), (2, 3), 1)]),
            (3, [((0, 1), (1, 1), (2, 0))], 4, [(((0, 1),), (0, 1, 3), 0), (((2, 3),), (2,), 0)]),
        ):
            self.assert_system(clause_system(n, clauses), size, equations)

    def test_like_and_opposite_literals(self):
        for clauses, size, equations in (
            ([((0, 1), (0, 1))], 1, [((), (0,), 1)]),
            ([((0, 0), (0, 0))], 1, [((), (0,), 0)]),
            ([((0, 1), (0, 0))], 1, [((), (), 0)]),
            ([((0, 1), (0, 1), (0, 1))], 2, [((), (0, 1), 0), (((0, 1),), (0, 1), 1)]),
            ([((0, 1), (0, 0), (0, 0))], 2, [((), (1,), 1), (((0, 1),), (0,), 0)]),
        ):
            self.assert_system(clause_system(1, clauses), size, equations)

    def test_further_unknowns_in_order(self):
        system = clause_system(1, [LONG, ((0, 1),), LONG, ((0, 0), (0, 0)), LONG])
        self.assert_exactly((system.n, len(system)), (4, 8))
        self.assert_exactly([k for k in range(4) if (((0, k),), (0, k), 1) in system.equations], [1, 2, 3])

    def test_lists_and_tuples_and_none(self):
        clauses = [((0, 1),), ((1, 0), (0, 0)), ((0, 1), (1, 1), (1, 0))]
        self.assertEqual(clause_system(2, clauses), clause_system(2, tuple(clauses)))
        self.assert_exactly(clauses, [((0, 1),), ((1, 0), (0, 0)), ((0, 1), (1, 1), (1, 0))])
        for n in range(1, 13):
            self.assert_system(clause_system(n, []), n, [])
            self.assert_system(clause_system(n, ()), n, [])

    def test_just_twelve_unknowns(self):
        for n in range(1, 13):
            system = clause_system(n, [((0, 1),), LONG] * (12 - n) + [((n - 1, 0), (0, 1))])
            self.assert_exactly((system.n, len(system)), (12, 3 * (12 - n) + 1))
        for n in (1, 12):
            self.assert_exactly(clause_system(n, [((0, 1), (n - 1, 0))] * 40).n, n)

    def test_more_than_twelve_unknowns(self):
        for n in range(1, 13):
            for more in (1, 2, 28):
                clauses = ([LONG] * (12 - n + more))[:40]
                self.assert_raises(TooMany, {"what": "unknowns"}, clause_system, n, clauses)
                self.assert_raises(TooMany, {"what": "unknowns"}, clause_solution, n, clauses, None)

    def test_wrong_sizes_come_first(self):
        for n in NO_SIZES:
            for clauses in ([], [((0, 1),)], [None], None, [LONG] * 13):
                self.assert_raises(InvalidNumber, {"value": n}, clause_system, n, clauses)
                self.assert_raises(InvalidNumber, {"value": n}, clause_solution, n, clauses, None)

    def test_then_wrong_clauses(self):
        for wrong in wrong_clauses():
            for ahead in (0, 1, 12, 13, 39):
                for behind in ([], [((0, 1),)], [wrong, None], [LONG]):
                    clauses = [LONG] * ahead + [wrong] + behind
                    for value in (clauses, tuple(clauses)):
                        self.assert_raises(InvalidClause, {"place": ahead}, clause_system, 3, value)
                    self.assert_raises(InvalidClause, {"place": ahead}, clause_solution, 3, clauses, None)

    def test_no_sequences(self):
        for value in [None, True, False, 0, 1, "", "ab", *OBJECTS, System(2, [])]:
            self.assert_raises(InvalidClause, {"place": 0}, clause_system, 3, value)
            self.assert_raises(InvalidClause, {"place": 0}, clause_solution, 3, value, (0, 0))

    def test_places_that_there_are_not(self):
        for n in range(1, 13):
            clause = ((0, 1), (n, 0))
            self.assert_raises(InvalidClause, {"place": 1}, clause_system, n, [((n - 1, 0),), clause])
            self.assert_raises(InvalidClause, {"place": 1}, clause_solution, n, [((n - 1, 0),), clause], (0,) * n)

    def assert_clauses(self, n, clauses):
        self.assert_system(clause_system(n, clauses), *equations_of(n, clauses))


class ClauseSolutionTest(Case):
    def test_each_clause_alone(self):
        for n in (1, 2, 3):
            for clause in all_clauses(n):
                self.assert_solutions(n, [clause])

    def test_some_clauses_together(self):
        dice = dice_for("clause_solution")
        for n in range(1, 7):
            for many in (0, 2, 3, 5):
                self.assert_solutions(n, random_clauses(dice, n, many))

    def test_twelve_bits(self):
        dice = dice_for("twelve bits")
        for _ in range(20):
            word = random_word(dice, 12)
            self.assert_exactly(clause_solution(12, [((k, word[k]),) for k in range(12)], word), word)

    def test_examples(self):
        clauses = [((0, 1), (1, 1), (2, 1)), ((0, 0),), ((2, 0), (2, 0), (1, 1))]
        self.assert_exactly(clause_solution(3, clauses, (0, 1, 1)), (0, 1, 1, 1, 0))
        self.assert_exactly(clause_solution(3, tuple(clauses), (0, 1, 0)), (0, 1, 0, 1, 1))
        self.assert_raises(Undefined, {"what": "solution"}, clause_solution, 3, clauses, (0, 0, 1))
        self.assert_exactly(clause_solution(3, [], (0, 0, 1)), (0, 0, 1))

    def test_wrong_words(self):
        for n in range(1, 13):
            # No word of n bits would be a solution: the word is refused first.
            for clauses in ([], [((0, 0),), ((0, 1),)]):
                for word in [*NO_WORDS, *[(0,) * length for length in range(1, 13) if length != n], [0] * n]:
                    self.assert_raises(InvalidWord, {"value": word}, clause_solution, n, clauses, word)

    def assert_solutions(self, n, clauses):
        system = clause_system(n, clauses)
        for word in all_words(n):
            if all_true(clauses, word):
                found = clause_solution(n, clauses, word)
                self.assert_exactly((found in system, found[:n], len(found)), (True, word, system.n))
                further = [int(all_true([clause[:2]], word)) for clause in clauses if len(clause) == 3]
                self.assert_exactly(found[n:], tuple(further))
            else:
                self.assert_raises(Undefined, {"what": "solution"}, clause_solution, n, clauses, word)


class BoldTest(Case):
    def test_one_to_one(self):
        dice = dice_for("bold of clauses")
        some = [(n, random_clauses(dice, n, many)) for n in range(1, 8) for many in (0, 1, 2, 4, 8)]
        for n, clauses in some + [(2, [clause]) for clause in all_clauses(2)]:
            wanted = [word for word in all_words(n) if all_true(clauses, word)]
            self.assert_exactly([solution[:n] for solution in clause_system(n, clauses).solutions()], wanted)


if __name__ == "__main__":
    unittest.main()
