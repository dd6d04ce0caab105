"""[19]: the module products."""

import unittest
from itertools import combinations

from fourread import products
from fourread.errors import InvalidNumber, InvalidTerm, TooMany
from fourread.products import lowered_system
from fourread.shares import Share
from fourread.systems import System
from fourread.tables import Table
from fourread.words import all_words
from tests.support import Case, NO_INTEGERS, OBJECTS, dice_for, nested

VALUES = [True, False, None, "0", "", (), (0,), [], [1], Share(0, 1), Share(1, 1), Table(1, (0, 1))]

LONG = (((0, 1, 2),), 0)


def all_terms(n):
    return [term for many in range(1, n + 1) for term in combinations(range(n), many)]


def beginnings_of(equations):
    found = []
    for terms, _ in equations:
        for term in terms:
            for length in range(2, len(term)):
                if term[:length] not in found:
                    found.append(term[:length])
    return found


def equations_of(n, equations):
    """The equations of the system, by the document's words."""
    numbers = {(i,): i for i in range(n)}
    found = []
    for beginning in beginnings_of(equations):
        ahead = numbers[beginning[:-1]]
        numbers[beginning] = n + len(found)
        found.append(((tuple(sorted((ahead, beginning[-1]))),), (numbers[beginning],), 0))
    for terms, right in equations:
        pairs = [tuple(sorted((numbers[term[:-1]], term[-1]))) for term in terms if len(term) > 1]
        singles = [term[0] for term in terms if len(term) == 1]
        found.append((tuple(sorted(pairs)), tuple(sorted(singles)), right))
    return found


def random_equations(dice, n, many):
    """Equations whose beginnings have together at most 12 - n further unknowns."""
    found = []
    for _ in range(many):
        longest = dice.randrange(1, 6)
        candidates = [term for term in all_terms(n) if len(term) <= longest]
        terms = sorted(dice.sample(candidates, min(dice.randrange(6), len(candidates))))
        while n + len(beginnings_of(found + [(terms, 0)])) > 12:
            terms.pop(dice.randrange(len(terms)))
        found.append((tuple(terms), dice.randrange(2)))
    return found


def wrong_equations():
    """Values that are no equation of terms of three unknowns, each for a reason of its own."""
    terms = [
        None, True, 0, 1, "", "0", "01", [], [(0,)], (0,), (0, 1), ((),), ((), (0,)), ((0,), ()), ([0],), ((0,), [1]),
        ((0, 0),), ((1, 0),), ((0, 2, 1),), ((0, 1, 1),), ((3,),), ((0, 3),), ((-1,),), ((-1, 0),), ((12,),),
        ((0, 1, 2, 3),), ((2 ** 70,),), ((0,), (0,)), ((1,), (0,)), ((0, 1), (0,)), ((0,), (2,), (1,)),
        ((0, 1), (0, 1)), ((1,), (0, 2)), ((0,), None), (None, (0,)), ((0,), 1), (0, (1,)), ("0",), (((0,),),),
        (((0, 1), 2),), Share(0, 1), Table(1, (0, 1)), nested((0,), 8), *[((value,),) for value in VALUES],
        *[((0, value),) for value in VALUES], *[((0,), (1, value)) for value in VALUES],
        *[(value, (1,)) for value in VALUES if value != (0,)],
    ]
    found = [(value, 0) for value in terms]
    found = found + [(((0,),), right) for right in [2, -1, 2 ** 70, *VALUES]] + [((), right) for right in [2, *VALUES]]
    others = [
        None, True, False, 0, 1, "", "01", (), [], ((),), (((0,),),), ((), 0, 0), (((0,),), 1, 1), ((), (), 0), [(), 0],
        [((0,),), 1], (0, ()), (1, ((0,),)), (((), 0),), nested(((), 0), 8), *OBJECTS,
    ]
    return found + others


class InterfaceTest(Case):
    def test_names(self):
        self.assert_interface(products, {"lowered_system": ["n", "equations"]})

    def test_arguments_by_name(self):
        self.assert_system(lowered_system(equations=[(((0, 1),), 1)], n=2), 2, [(((0, 1),), (), 1)])


class LoweredSystemTest(Case):
    def test_examples(self):
        for n, equations, size, wanted in (
            (1, [], 1, []),
            (12, (), 12, []),
            (1, [((), 0), ((), 1)], 1, [((), (), 0), ((), (), 1)]),
            (2, [(((0,), (0, 1), (1,)), 1)], 2, [(((0, 1),), (0, 1), 1)]),
            (3, [(((0, 1, 2),), 1)], 4, [(((0, 1),), (3,), 0), (((2, 3),), (), 1)]),
            (4, [(((0, 1, 2, 3),), 0)], 6, [(((0, 1),), (4,), 0), (((2, 4),), (5,), 0), (((3, 5),), (), 0)]),
            (4, [(((0, 1, 2), (0, 1, 3)), 0)], 5, [(((0, 1),), (4,), 0), (((2, 4), (3, 4)), (), 0)]),
            (4, [(((1, 2, 3),), 0), (((0, 1, 2), (3,)), 1)], 6, [
                (((1, 2),), (4,), 0), (((0, 1),), (5,), 0), (((3, 4),), (), 0), (((2, 5),), (3,), 1),
            ]),
            (4, [(((0, 1, 2), (1,), (1, 3)), 0)], 5, [(((0, 1),), (4,), 0), (((1, 3), (2, 4)), (1,), 0)]),
            (5, [(((0, 1, 4), (1, 2, 3), (3, 4)), 0)], 7, [
                (((0, 1),), (5,), 0), (((1, 2),), (6,), 0), (((3, 4), (3, 6), (4, 5)), (), 0),
            ]),
        ):
            self.assert_system(lowered_system(n, equations), size, wanted)

    def test_a_beginning_that_is_a_whole_term_too(self):
        # The whole term (0, 1) is a pair, its further unknown stands for the beginning alone.
        self.assert_system(lowered_system(3, [(((0, 1), (0, 1, 2)), 1)]), 4, [
            (((0, 1),), (3,), 0), (((0, 1), (2, 3)), (), 1),
        ])
        self.assert_system(lowered_system(4, [(((0, 1, 2), (0, 1, 2, 3)), 1)]), 6, [
            (((0, 1),), (4,), 0), (((2, 4),), (5,), 0), (((2, 4), (3, 5)), (), 1),
        ])

    def test_some_equations(self):
        dice = dice_for("products")
        for n in range(1, 13):
            for many in (0, 1, 2, 5, 40):
                self.assert_equations(n, random_equations(dice, n, many))

    def test_forty_terms(self):
        for n in (9, 12):
            terms = sorted(list(combinations(range(n), 2))[:40 - n] + [(i,) for i in range(n)])
            self.assert_equations(n, [(tuple(terms), 1)])

    def test_just_twelve_unknowns(self):
        self.assert_equations(7, [((tuple(range(7)),), 1)])
        self.assert_equations(10, [(((0, 1, 2), (3, 4, 5)), 1), (((0, 1, 9),), 0)])
        self.assert_equations(11, [(((9, 10),), 1), (((0, 1, 10),), 0), (((0, 1, 9),), 0)])
        self.assert_equations(12, [(((0, 11), (10, 11), (11,)), 1)])
        self.assertEqual(lowered_system(7, [((tuple(range(7)),), 1)]).n, 12)
        self.assertEqual(lowered_system(10, [(((0, 1, 2), (3, 4, 5)), 1)]).n, 12)

    def test_more_than_twelve_unknowns(self):
        for n, equations in (
            (12, [LONG]), (11, [LONG, (((1, 2, 3),), 0)]), (10, [(((0, 1, 2), (1, 2, 3), (2, 3, 4)), 0)]),
            (8, [((tuple(range(8)),), 1)]), (12, [((tuple(range(12)),), 1)]), (9, [(((0, 1, 2, 3), (1, 2, 3, 4)), 1)]),
            (12, [((), 0)] * 39 + [LONG]),
        ):
            self.assert_raises(TooMany, {"what": "unknowns"}, lowered_system, n, equations)
            for wrong in (None, (((n,),), 0), (((0,),), 2)):
                self.assert_raises(InvalidTerm, {"place": len(equations)}, lowered_system, n, equations + [wrong])

    def test_wrong_sizes_come_first(self):
        for n in [0, 13, -1, -12, 2 ** 70, *NO_INTEGERS]:
            for equations in ([], [LONG], [None], None):
                self.assert_raises(InvalidNumber, {"value": n}, lowered_system, n, equations)

    def test_then_wrong_equations(self):
        for wrong in wrong_equations():
            for ahead in (0, 1, 2, 39):
                for behind in ([], [LONG], [wrong, None]):
                    equations = [LONG] * ahead + [wrong] + behind
                    self.assert_raises(InvalidTerm, {"place": ahead}, lowered_system, 3, equations)
                    self.assert_raises(InvalidTerm, {"place": ahead}, lowered_system, 3, tuple(equations))

    def test_no_sequences(self):
        for value in [None, True, False, 0, 1, "", "01", *OBJECTS, System(2, [])]:
            self.assert_raises(InvalidTerm, {"place": 0}, lowered_system, 3, value)

    def test_unknowns_that_there_are_not(self):
        for n in range(1, 13):
            self.assert_system(lowered_system(n, [(((n - 1,),), 1)]), n, [((), (n - 1,), 1)])
            for term in ((n,), (0, n), (n, n + 1), (n + 1,)):
                self.assert_raises(InvalidTerm, {"place": 1}, lowered_system, n, [(((n - 1,),), 1), ((term,), 1)])

    def assert_equations(self, n, equations):
        before = list(equations)
        wanted = equations_of(n, equations)
        size = n + len(beginnings_of(equations))
        self.assert_system(lowered_system(n, equations), size, wanted)
        self.assert_system(lowered_system(n, tuple(equations)), size, wanted)
        self.assert_exactly(equations, before)


class BoldTest(Case):
    def test_one_to_one(self):
        dice = dice_for("bold of products")
        for n in range(1, 8):
            for many in (0, 1, 2, 3, 4):
                equations = random_equations(dice, n, many)
                wanted = [word for word in all_words(n) if all(self.fits(word, *one) for one in equations)]
                solutions = lowered_system(n, equations).solutions()
                self.assert_exactly([solution[:n] for solution in solutions], wanted)

    def fits(self, word, terms, right):
        return sum(all(word[i] for i in term) for term in terms) % 2 == right


if __name__ == "__main__":
    unittest.main()
