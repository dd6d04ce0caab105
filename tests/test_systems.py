"""[14]: the module systems."""

import inspect
import unittest
from itertools import combinations, product

from fourread import systems
from fourread.errors import InvalidNumber, InvalidSystem, InvalidWord, Undefined
from fourread.shares import Share
from fourread.squares import added_squares, square_of, square_product
from fourread.systems import System, row_added
from fourread.tables import Table
from fourread.words import all_words
from tests.support import (
    Case, NO_INTEGERS, NO_WORDS, OBJECTS, dice_for, fits, nested, random_equation, random_system, random_word,
    solutions_of,
)

EQUATIONS = ((((0, 1), (1, 2)), (0,), 1), ((), (1, 2), 0), (((0, 2),), (), 0))

EMPTY = ((), (), 0)

# Values of other kinds than numbers, that are no unknown.
NO_UNKNOWNS = [True, False, None, "0", "", (), (0,), [], [0], Share(0, 1), Table(1, (0, 1))]


def wrong_equations():
    """Values that are no equation between three unknowns, each for a reason of its own."""
    pairs = [
        None, True, 0, "", "01", [], [(0, 1)], (0,), (0, 1), ((),), ((0,),), ((0, 1, 2),), ([0, 1],), ((0, 1), [0, 2]),
        ((0, 0),), ((1, 0),), ((2, 2),), ((0, 3),), ((-1, 0),), ((3, 4),), ((0, 12),), ((0, 1), (0, 1)),
        ((0, 2), (0, 1)), ((1, 2), (0, 2)), ((0, 1), (1, 2), (0, 2)), ((0, 1), None), (None, (0, 1)), "ab", ("01",),
        ((0, 1), 1), ((0, 1), (0,)), ((False, 1),), ((0, True),), ((0, 2), (1, True)), Share(0, 1), Table(1, (0, 1)),
        (((0, 1),),), nested((0, 1), 8), *[((0, value),) for value in NO_UNKNOWNS],
        *[((value, 1),) for value in NO_UNKNOWNS],
    ]
    singles = [
        None, True, 0, 1, "", "0", [], [0], [0, 1], (3,), (-1,), (0, 3), (-1, 0), (12,), (2 ** 70,), (0, 0), (1, 0),
        (2, 1), (0, 2, 1), (0, 1, 1), ((0,),), ((0, 1),), (0, None), (None, 0), (False,), (0, True), (True, 2),
        Share(0, 1), Table(1, (0, 1)), nested(0, 8), *[(value,) for value in NO_UNKNOWNS],
        *[(0, value) for value in NO_UNKNOWNS],
    ]
    rights = [2, -1, 2 ** 70, True, False, None, "0", "", (), (0,), (1,), [], [1], Share(1, 1), Table(1, (0, 1))]
    found = [(pair, (), 0) for pair in pairs] + [((), single, 1) for single in singles]
    found = found + [((), (), right) for right in rights] + [(((0, 1),), (2,), right) for right in rights]
    others = [
        None, True, False, 0, 1, -1, "", "-=0", (), [], (0,), ((),), ((), ()), ((), (), 0, 0), ((), (), (), 0),
        [(), (), 0], [((0, 1),), (2,), 1], (((), (), 0),), ((0,), (), 0), ((), ((0, 1),), 0), (0, (), ()),
        nested(EMPTY, 7), *OBJECTS,
    ]
    return found + others


def some_systems():
    dice = dice_for("systems")
    return [random_system(dice, n, many) for n in range(1, 7) for many in range(5)]


class InterfaceTest(Case):
    def test_names(self):
        self.assert_interface(systems, {"row_added": ["system", "i", "j"]})
        self.assertIs(vars(systems)["System"], System)
        self.assertEqual(System.__module__, "fourread.systems")
        for name in ("__init__", "__len__", "__contains__", "__eq__", "first_wrong", "solutions", "drawn"):
            self.assertIn(name, vars(System))
        self.assertEqual(list(inspect.signature(System).parameters), ["n", "equations"])
        for name, parameters in {"first_wrong": ["word"], "solutions": [], "drawn": ["chosen"]}.items():
            self.assertEqual(list(inspect.signature(getattr(System, name)).parameters)[1:], parameters)

    def test_arguments_by_name(self):
        system = System(equations=EQUATIONS, n=3)
        self.assert_system(system, 3, EQUATIONS)
        self.assert_exactly(system.first_wrong(word=(0, 0, 0)), 0)
        self.assert_exactly(system.drawn(chosen=(0, 1, 0)), (((0, 0, 0), (0, 1, 0), (0, 0, 1)), 0))
        self.assert_system(row_added(j=0, i=2, system=system), 3, [
            (((0, 1), (0, 2), (1, 2)), (0,), 1), *EQUATIONS[1:],
        ])


class SystemTest(Case):
    def test_tuples_and_lists(self):
        dice = dice_for("System")
        for n in range(1, 13):
            for many in (0, 1, 2, 5, 40):
                equations = [random_equation(dice, n) for _ in range(many)]
                for system in (System(n, equations), System(n, tuple(equations))):
                    self.assert_system(system, n, equations)
                    self.assert_exactly(len(system), many)

    def test_a_list_that_is_changed_afterwards(self):
        equations = list(EQUATIONS)
        system = System(3, equations)
        self.assert_exactly(equations, list(EQUATIONS))
        equations[0] = EMPTY
        equations.append(EMPTY)
        self.assert_system(system, 3, EQUATIONS)
        self.assert_exactly((len(system), system.solutions()), (3, solutions_of(3, EQUATIONS)))

    def test_all_terms_that_there_are(self):
        for n in range(1, 13):
            equation = (tuple(combinations(range(n), 2)), tuple(range(n)), 1)
            self.assert_system(System(n, [equation, equation]), n, [equation, equation])

    def test_wrong_sizes_come_first(self):
        for n in [0, 13, -1, -12, 2 ** 70, *NO_INTEGERS]:
            for equations in ([], (), [EMPTY], [None], None, "", EQUATIONS):
                self.assert_raises(InvalidSystem, {"part": "size", "place": 0}, System, n, equations)

    def test_no_sequences(self):
        values = [None, True, False, 0, 1, "", "-=0", Share(0, 1), Table(1, (0, 1)), System(1, [EMPTY]), System(3, [])]
        for n in (1, 3, 12):
            for value in values:
                self.assert_raises(InvalidSystem, {"part": "equations", "place": 0}, System, n, value)

    def test_wrong_equations(self):
        for wrong in wrong_equations():
            for equations in ([wrong], (wrong,), [wrong, EMPTY], [wrong, None]):
                self.assert_raises(InvalidSystem, {"part": "equations", "place": 0}, System, 3, equations)

    def test_the_first_wrong_place(self):
        for wrong in wrong_equations():
            for ahead in (1, 2, 5, 39):
                for behind in ([], [EMPTY], [wrong], [EMPTY, None]):
                    equations = [EQUATIONS[k % 3] for k in range(ahead)] + [wrong] + behind
                    wanted = {"part": "equations", "place": ahead}
                    self.assert_raises(InvalidSystem, wanted, System, 3, equations)
                    self.assert_raises(InvalidSystem, wanted, System, 3, tuple(equations))

    def test_unknowns_that_there_are_not(self):
        for n in range(1, 13):
            self.assert_system(System(n, [((), (n - 1,), 0)]), n, [((), (n - 1,), 0)])
            wanted = {"part": "equations", "place": 0}
            self.assert_raises(InvalidSystem, wanted, System, n, [((), (n,), 0)])
            self.assert_raises(InvalidSystem, wanted, System, n, [(((0, n),), (), 0)])
            if n > 1:
                self.assert_system(System(n, [(((0, n - 1),), (), 0)]), n, [(((0, n - 1),), (), 0)])


class EqualTest(Case):
    def test_systems(self):
        found = [
            System(1, []), System(2, []), System(3, []), System(1, [EMPTY]), System(2, [EMPTY]),
            System(2, [EMPTY, EMPTY]), System(2, [((), (), 1)]), System(2, [((), (0,), 0)]),
            System(2, [(((0, 1),), (), 0)]), System(3, EQUATIONS), System(3, EQUATIONS[::-1]),
            System(3, EQUATIONS[:2]), System(4, EQUATIONS),
        ]
        for place, one in enumerate(found):
            for beside, other in enumerate(found):
                self.assert_exactly((one == other, one != other), (place == beside, place != beside))

    def test_systems_made_twice(self):
        for system in some_systems():
            other = System(system.n, list(system.equations))
            self.assert_exactly((system == other, system != other), (True, False))

    def test_other_kinds_of_values(self):
        for system in (System(1, []), System(3, EQUATIONS)):
            values = [None, True, 0, 1, "", (), [], system.equations, (system.n, system.equations), Share(0, 1),
                      Table(1, (0, 1))]
            for value in values:
                self.assert_exactly((system == value, system != value), (False, True))
                self.assert_exactly((value == system, value != system), (False, True))


class FirstWrongTest(Case):
    def test_all_words(self):
        for system in some_systems():
            for word in all_words(system.n):
                wrong = [k for k, equation in enumerate(system.equations) if not fits(word, equation)]
                self.assert_exactly(system.first_wrong(word), wrong[0] if wrong else None)

    def test_examples(self):
        system = System(3, EQUATIONS)
        found = [system.first_wrong(word) for word in all_words(3)]
        self.assert_exactly(found, [0, 0, 0, None, None, 1, 0, 2])
        self.assert_exactly(System(1, []).first_wrong((1,)), None)
        self.assert_exactly(System(1, [EMPTY, ((), (), 1)]).first_wrong((1,)), 1)

    def test_wrong_words(self):
        for n in range(1, 13):
            for system in (System(n, []), System(n, [EMPTY, ((), (), 1)])):
                for word in [*NO_WORDS, *[(0,) * length for length in range(1, 13) if length != n], [0] * n]:
                    self.assert_raises(InvalidWord, {"value": word}, system.first_wrong, word)


class InTest(Case):
    def test_all_words(self):
        for system in some_systems():
            wanted = solutions_of(system.n, system.equations)
            for word in all_words(system.n):
                self.assert_exactly((word in system, word not in system), (word in wanted, word not in wanted))

    def test_any_value_at_all(self):
        for n in range(1, 13):
            system = System(n, [])
            self.assert_exactly((0,) * n in system, True)
            for value in [*NO_WORDS, *[(0,) * length for length in range(1, 13) if length != n], [0] * n, system]:
                self.assert_exactly((value in system, value not in system), (False, True))

    def test_ones_that_are_true(self):
        system = System(2, [(((0, 1),), (), 1)])
        self.assert_exactly((1, 1) in system, True)
        for value in ((True, 1), (1, True), [1, 1], (1, 1, 1), "11", (1,), ((1, 1),)):
            self.assert_exactly(value in system, False)


class SolutionsTest(Case):
    def test_by_all_words(self):
        for system in some_systems():
            self.assert_exactly(system.solutions(), solutions_of(system.n, system.equations))

    def test_none_and_all(self):
        for n in range(1, 13):
            self.assert_exactly(System(n, []).solutions(), all_words(n))
            self.assert_exactly(System(n, [EMPTY]).solutions(), all_words(n))
            self.assert_exactly(System(n, [EMPTY, ((), (), 1)]).solutions(), ())

    def test_twelve_unknowns(self):
        dice = dice_for("twelve unknowns")
        for many in (3, 8):
            system = random_system(dice, 12, many)
            self.assert_exactly(system.solutions(), solutions_of(12, system.equations))
        pairs = tuple((2 * k, 2 * k + 1) for k in range(6))
        equations = [((pair,), (), 1) for pair in pairs]
        self.assert_exactly(System(12, equations).solutions(), ((1,) * 12,))
        self.assert_exactly(System(12, equations[1:]).solutions(), tuple(
            first + (1,) * 10 for first in product((0, 1), repeat=2)
        ))

    def test_examples(self):
        self.assert_exactly(System(2, [((), (0,), 1), ((), (1,), 1), (((0, 1),), (), 0)]).solutions(), ())
        self.assert_exactly(System(2, [(((0, 1),), (), 0)]).solutions(), ((0, 0), (0, 1), (1, 0)))
        self.assert_exactly(System(2, [(((0, 1),), (0, 1), 1)]).solutions(), ((0, 1), (1, 0), (1, 1)))


class DrawnTest(Case):
    def square(self, n, equation):
        """The square of one equation, by the document's words."""
        pairs, singles, _ = equation
        places = [*pairs, *[(i, i) for i in singles]]
        return tuple(tuple(int((i, j) in places) for j in range(n)) for i in range(n))

    def test_all_choices(self):
        for system in some_systems():
            for chosen in product((0, 1), repeat=len(system)):
                self.assert_drawn(system, chosen)

    def test_many_equations(self):
        dice = dice_for("drawn")
        for n in (1, 2, 5, 12):
            system = random_system(dice, n, 40)
            for chosen in ((0,) * 40, (1,) * 40, (0,) * 39 + (1,), random_word(dice, 40), random_word(dice, 40)):
                self.assert_drawn(system, chosen)

    def test_none_chosen(self):
        for n in (1, 2, 12):
            zeros = ((0,) * n,) * n
            self.assert_exactly(System(n, []).drawn(()), (zeros, 0))
            self.assert_exactly(System(n, [((), (0,), 1)]).drawn((0,)), (zeros, 0))
            self.assert_exactly(System(n, [((), (0,), 1)] * 2).drawn((1, 1)), (zeros, 0))

    def test_examples(self):
        system = System(3, EQUATIONS)
        self.assert_exactly(system.drawn((1, 0, 0)), (((1, 1, 0), (0, 0, 1), (0, 0, 0)), 1))
        self.assert_exactly(system.drawn((1, 1, 1)), (((1, 1, 1), (0, 1, 1), (0, 0, 1)), 1))

    def test_drawn_tells_what_a_word_gives(self):
        for system in some_systems():
            for chosen in product((0, 1), repeat=len(system)):
                square, bit = system.drawn(chosen)
                for word in all_words(system.n):
                    wrong = sum(not fits(word, equation) for equation, one in zip(system.equations, chosen) if one)
                    self.assertEqual(square_product(square_of(word, word), square) ^ bit, wrong % 2)

    def test_wrong_choices(self):
        for many in (0, 1, 2, 3, 40):
            system = System(3, [EQUATIONS[k % 3] for k in range(many)])
            others = [(0,) * length for length in (*range(5), 12, 13, 39, 40, 41) if length != many]
            ends = [(0,) * (many - 1) + (wrong,) for wrong in (2, -1, True, None, "0", (0,), Share(0, 1)) if many]
            values = [None, True, 0, "", "0" * many, [], [0] * many, [1], *others, *ends, *OBJECTS, nested((0,), 8)]
            for value in values:
                self.assert_raises(InvalidWord, {"value": value}, system.drawn, value)

    def assert_drawn(self, system, chosen):
        square, bit = ((0,) * system.n,) * system.n, 0
        for one, equation in zip(chosen, system.equations):
            if one:
                square, bit = added_squares(square, self.square(system.n, equation)), (bit + equation[2]) % 2
        self.assert_exactly(system.drawn(chosen), (square, bit))


class RowAddedTest(Case):
    def test_all_pairs_of_rows(self):
        for system in some_systems():
            for i, j in product(range(len(system)), repeat=2):
                if i != j:
                    self.assert_row_added(system, i, j)

    def test_many_unknowns(self):
        dice = dice_for("row_added")
        for n in (7, 12):
            system = random_system(dice, n, 40)
            for i, j in ((0, 39), (39, 0), (17, 18)):
                self.assert_row_added(system, i, j)

    def test_examples(self):
        system = System(3, EQUATIONS)
        self.assert_system(row_added(system, 0, 1), 3, [
            EQUATIONS[0], (((0, 1), (1, 2)), (0, 1, 2), 1), EQUATIONS[2],
        ])
        twice = row_added(row_added(system, 0, 1), 0, 1)
        self.assert_system(twice, 3, EQUATIONS)
        alike = System(2, [(((0, 1),), (0, 1), 1)] * 2)
        self.assert_system(row_added(alike, 1, 0), 2, [EMPTY, (((0, 1),), (0, 1), 1)])

    def test_two_digits_stand_in_the_order_of_numbers(self):
        system = System(12, [((), (2, 10), 0), ((), (1, 9, 11), 0)])
        self.assert_system(row_added(system, 0, 1), 12, [((), (2, 10), 0), ((), (1, 2, 9, 10, 11), 0)])

    def test_wrong_numbers(self):
        for many in (0, 1, 2, 3):
            system = System(3, EQUATIONS[:many])
            wrong = [-1, many, many + 1, -many - 1, 2 ** 70, *NO_INTEGERS]
            for value in wrong:
                for other in (0, 1, many, -1, None, True):
                    self.assert_raises(InvalidNumber, {"value": value}, row_added, system, value, other)
                for i in range(many):
                    self.assert_raises(InvalidNumber, {"value": value}, row_added, system, i, value)

    def test_like_numbers(self):
        for many in (1, 2, 3):
            for i in range(many):
                self.assert_raises(Undefined, {"what": "rows"}, row_added, System(3, EQUATIONS[:many]), i, i)

    def assert_row_added(self, system, i, j):
        before = system.equations
        one, other = before[i], before[j]
        terms = [tuple(sorted(set(one[part]) ^ set(other[part]))) for part in (0, 1)]
        wanted = list(before)
        wanted[j] = (terms[0], terms[1], (one[2] + other[2]) % 2)
        self.assert_system(row_added(system, i, j), system.n, wanted)
        self.assert_system(system, system.n, before)


class BoldTest(Case):
    def test_solutions_stay_under_row_added(self):
        for system in some_systems():
            wanted = system.solutions()
            for i, j in product(range(len(system)), repeat=2):
                if i != j:
                    self.assert_exactly(row_added(system, i, j).solutions(), wanted)


if __name__ == "__main__":
    unittest.main()
