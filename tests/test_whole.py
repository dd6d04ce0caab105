"""[1] to [4] and the overview: what holds for all modules together."""

import copy
import importlib
import inspect
import pathlib
import pkgutil
import unittest
from itertools import product

import fourread
from fourread import errors
from fourread.circuits import Circuit
from fourread.desk import Desk
from fourread.errors import ReadError
from fourread.exact import refused_share
from fourread.matrices import times
from fourread.nearest import least_distance, nearest_sums
from fourread.papers import SumsPaper, TablePaper, paper_of, written
from fourread.readoff import solution_mended, solution_read
from fourread.shares import Share
from fourread.sumtests import passing_share
from fourread.systems import System
from fourread.tables import Table, distance, sum_table
from fourread.throws import Judge, all_tapes, passes
from fourread.words import all_words
from tests.support import (
    Case, dice_for, inner, nested, outer, random_changes, random_matrix, random_system, random_table_paper, random_word,
    some_tables, solutions_of, squares_of, words_of,
)

SYSTEM = System(3, [(((0, 1),), (2,), 1), ((), (0, 2), 0)])

PAPER = SumsPaper((1, 0, 1), ((1, 0, 1), (0, 0, 0), (1, 0, 1)), words=((1, 1, 0),))

TABLE = Table(2, (0, 1, 1, 1))

CIRCUIT = Circuit(2, [("and", 0, 1), ("not", 2)])

SWAP = ((0, 1), (1, 0))

# For each function of the interface one right call of it: the values by the names of the parameters, in their order.
CALLS = {
    "words": {
        "is_word": {"value": (0, 1), "n": 2}, "all_words": {"n": 2}, "added": {"one": (0, 1), "other": (1, 1)},
        "product_of": {"one": (0, 1), "other": (1, 1)}, "number_of": {"word": (0, 1)}, "word_of": {"n": 3, "number": 5},
    },
    "matrices": {
        "times": {"word": (1, 0), "matrix": SWAP}, "turned_about": {"matrix": SWAP}, "rank_of": {"matrix": SWAP},
        "inverse_of": {"matrix": SWAP},
    },
    "squares": {
        "square_of": {"one": (0, 1), "other": (1, 1)}, "added_squares": {"one": SWAP, "other": SWAP},
        "square_product": {"one": SWAP, "other": SWAP},
    },
    "shares": {"Share": {"over": 2, "under": -4}},
    "tables": {
        "Table": {"n": 1, "bits": [0, 1]}, "sum_table": {"word": (1, 0)},
        "turned_table": {"table": TABLE, "matrix": SWAP}, "fixed_table": {"table": TABLE, "place": 0, "bit": 1},
        "distance": {"one": TABLE, "other": TABLE},
    },
    "signed": {
        "signed_sum": {"table": TABLE, "word": (0, 1)}, "signed_sums": {"table": TABLE},
        "table_from": {"n": 2, "numbers": [-2, 2, 2, 2]},
    },
    "nearest": {
        "least_distance": {"table": TABLE}, "nearest_sums": {"table": TABLE},
        "near_sums": {"table": TABLE, "share": Share(1, 2)}, "beginning_weight": {"table": TABLE, "beginning": (1,)},
    },
    "sumtests": {
        "passes_sum": {"table": TABLE, "words": ((0, 1), (1, 1))}, "passing_share": {"table": TABLE, "many": 3},
    },
    "mending": {
        "mended": {"table": TABLE, "word": (0, 1), "by": (1, 1)}, "one_share": {"table": TABLE, "word": (0, 1)},
        "mended_bit": {"table": sum_table((1, 0)), "word": (1, 0)},
    },
    "systems": {
        "System": {"n": 2, "equations": [((), (0, 1), 1)]}, "row_added": {"system": SYSTEM, "i": 0, "j": 1},
    },
    "systemtexts": {"write_system": {"system": SYSTEM}, "read_system": {"text": "system 2\n0*1+1=1"}},
    "clauses": {
        "clause_system": {"n": 3, "clauses": [((0, 1), (1, 0), (2, 1)), ((1, 1),)]},
        "clause_solution": {"n": 3, "clauses": [((0, 1), (1, 0), (2, 1))], "word": (1, 1, 0)},
    },
    "circuits": {
        "Circuit": {"inputs": 2, "gates": [("xor", 0, 1)]}, "circuit_system": {"circuit": CIRCUIT, "wished": [(3, 1)]},
    },
    "colourings": {
        "colour_system": {"nodes": 3, "ties": [(0, 1), (1, 2)], "colours": 3}, "colour_word": {"colouring": (0, 3)},
        "colouring_of": {"word": (0, 1, 1, 1)},
    },
    "products": {"lowered_system": {"n": 3, "equations": [(((0, 1, 2),), 1), (((0,), (1, 2)), 0)]}},
    "papers": {
        "TablePaper": {"n": 1, "f": (0, 1), "g": (1, 0)}, "paper_of": {"word": (0, 1)}, "written": {"paper": PAPER},
        "SumsPaper": {"word": (0,), "square": ((1,),), "words": ((1,),), "squares": (((0,),),)},
    },
    "throws": {
        "tape_length": {"system": SYSTEM, "kind": 4}, "all_tapes": {"system": SYSTEM, "kind": 0},
        "places_read": {"system": SYSTEM, "kind": 0, "tape": (0, 1, 1, 1, 0, 0)},
        "passes": {"system": SYSTEM, "paper": PAPER, "kind": 1, "tape": (0, 1, 1, 1, 0, 0)},
        "Judge": {"system": SYSTEM, "paper": PAPER},
    },
    "exact": {
        "refused_by_kind": {"system": SYSTEM, "paper": PAPER}, "refused_share": {"system": SYSTEM, "paper": PAPER},
        "nearly_share": {"paper": PAPER}, "passing_bound": {"many": 2},
    },
    "readoff": {
        "solution_read": {"system": SYSTEM, "paper": PAPER}, "solution_mended": {"system": SYSTEM, "paper": PAPER},
    },
    "making": {
        "turned_system": {"system": System(2, [(((0, 1),), (), 1)]), "matrix": SWAP},
        "fixed_system": {"system": SYSTEM, "place": 0, "bit": 1}, "beside_systems": {"one": SYSTEM, "other": SYSTEM},
    },
    "rising": {
        "broken_edges": {"table": TABLE + TABLE}, "sorted_along": {"table": TABLE, "place": 1},
        "sorted_table": {"table": TABLE}, "least_changes": {"table": TABLE},
    },
    "lists": {
        "way_to": {"length": 7, "place": 4}, "is_good": {"numbers": [1, 3, 2], "place": 2},
        "refused_places": {"numbers": [1, 3, 2]}, "least_left_out": {"numbers": [1, 3, 2]},
    },
    "desk": {"Desk": {"system": SYSTEM}, "replayed_desk": {"system": SYSTEM, "lines": ["paper 111", "add 0 1"]}},
}

# What is passed by name alone.
BY_NAME_ALONE = {"passing_share": ("many",), "SumsPaper": ("words", "squares")}

ERRORS = {
    "InvalidNumber": ["value"], "InvalidWord": ["value"], "InvalidWords": ["value"], "InvalidMatrix": ["value"],
    "InvalidSquare": ["value"], "InvalidTable": ["value"], "InvalidShare": ["value"],
    "InvalidSystem": ["part", "place"], "InvalidClause": ["place"], "InvalidGate": ["place"], "InvalidTie": ["place"],
    "InvalidTerm": ["place"], "InvalidPaper": ["part", "place"], "InvalidTape": ["value"], "InvalidList": ["value"],
    "InvalidText": ["text", "at"], "InvalidLine": ["line", "at"], "UnknownWord": ["word"], "TooMany": ["what"],
    "Undefined": ["what"], "NothingToUndo": ["word"],
}


def all_calls():
    """Each function of the interface with the values of its call, which are made anew."""
    for module, calls in CALLS.items():
        found = vars(importlib.import_module(f"fourread.{module}"))
        for name, values in calls.items():
            yield name, found[name], {parameter: copy.deepcopy(value) for parameter, value in values.items()}


def called(name, function, values):
    """The call with all by position that may be."""
    named = BY_NAME_ALONE.get(name, ())
    first = [value for parameter, value in values.items() if parameter not in named]
    return function(*first, **{parameter: value for parameter, value in values.items() if parameter in named})


def plain(value):
    """The value with the objects of the package as the names of their classes and their attributes."""
    if isinstance(value, (list, tuple)):
        return type(value)(plain(part) for part in value)
    if type(value).__module__.startswith("fourread."):
        return type(value).__name__, tuple((name, plain(part)) for name, part in sorted(vars(value).items()))
    return value


def parts_of(value):
    """All values within a value that is returned, those of attributes that have no underscore ahead too."""
    yield value
    if isinstance(value, (list, tuple)):
        for part in value:
            yield from parts_of(part)
    if type(value).__module__.startswith("fourread."):
        for name, part in vars(value).items():
            if not name.startswith("_"):
                yield from parts_of(part)


class InterfaceTest(Case):
    def test_each_name_in_its_module_with_its_parameters(self):
        for module, calls in CALLS.items():
            for name, values in calls.items():
                found = vars(importlib.import_module(f"fourread.{module}"))[name]
                self.assertEqual(found.__module__, f"fourread.{module}")
                self.assertEqual(list(inspect.signature(found).parameters), list(values), name)
                alone = [p.name for p in inspect.signature(found).parameters.values() if p.kind == p.KEYWORD_ONLY]
                self.assertEqual(alone, list(BY_NAME_ALONE.get(name, ())), name)

    def test_the_errors(self):
        for name, parameters in ERRORS.items():
            found = vars(errors)[name]
            self.assertEqual(found.__bases__, (ReadError,))
            self.assertEqual(list(inspect.signature(found).parameters), parameters)
            values = [nested(number, 3) for number in range(len(parameters))]
            error = found(*values)
            self.assertTrue(all(getattr(error, name) is value for name, value in zip(parameters, values)))
        self.assertEqual(ReadError.__bases__, (ValueError,))
        self.assertEqual(set(ERRORS) | {"ReadError"}, {name for name in vars(errors) if not name.startswith("_")})

    def test_tests_stand_beside_the_package(self):
        folder = pathlib.Path(fourread.__path__[0])
        names = [module.name for module in pkgutil.iter_modules([str(folder)])]
        self.assertEqual(sorted(names), sorted([*CALLS, "basics", "errors"]))


class CallsTest(Case):
    def test_by_position_and_by_name_alike(self):
        for name, function, values in all_calls():
            first, again = called(name, function, values), called(name, function, values)
            named = function(**dict(reversed(values.items())))
            self.assert_exactly(plain(first), plain(again))
            self.assert_exactly(plain(first), plain(named))

    def test_arguments_stay(self):
        for name, function, values in all_calls():
            before = repr([plain(value) for value in values.values()])
            called(name, function, values)
            self.assertEqual(repr([plain(value) for value in values.values()]), before, name)

    def test_later_changes_have_no_effect(self):
        for name, function, values in all_calls():
            result = called(name, function, values)
            before = repr(plain(result))
            for value in values.values():
                if isinstance(value, list):
                    value.reverse()
                    value.append(None)
            self.assertEqual(repr(plain(result)), before, name)

    def test_lists_and_tuples_alike_where_a_sequence_is_expected(self):
        for name, function, values in all_calls():
            tuples = {parameter: tuple(v) if isinstance(v, list) else v for parameter, v in values.items()}
            self.assert_exactly(plain(called(name, function, tuples)), plain(called(name, function, values)))

    def test_what_is_returned_is_tuples_within(self):
        for name, function, values in all_calls():
            for part in parts_of(called(name, function, values)):
                of_package = type(part).__module__.startswith("fourread.")
                self.assertTrue(of_package or type(part) in (int, bool, str, tuple, type(None)), (name, part))

    def test_objects_are_equal_to_their_like_alone(self):
        found = [Share(1, 2), Table(1, (0, 1)), System(1, []), TablePaper(1, (0, 1), (0, 1)), paper_of((1,))]
        others = [None, True, False, 0, 1, "", (), [], (1, 2), (1, (0, 1)), Desk(System(1, [])), CIRCUIT, ReadError()]
        for one in found:
            self.assert_exactly((one == copy.deepcopy(one), one != copy.deepcopy(one)), (True, False))
            for other in [value for value in found if value is not one] + others:
                self.assert_exactly((one == other, other == one, one != other), (False, False, True))

    def test_objects_answer_alike_though_they_have_no_equality(self):
        one, other = Circuit(2, [("or", 0, 1)]), Circuit(2, (("or", 0, 1),))
        self.assertEqual([one.lines(word) for word in words_of(2)], [other.lines(word) for word in words_of(2)])
        one, other = Judge(SYSTEM, PAPER), Judge(SYSTEM, PAPER)
        tapes = list(all_tapes(SYSTEM, 1))
        self.assertEqual([one.throw(1, tape) for tape in tapes], [other.throw(1, tape) for tape in tapes])
        self.assertEqual((one.thrown, one.refused, one.letters), (other.thrown, other.refused, other.letters))


class OverviewTest(Case):
    def test_example(self):
        system = System(2, [((), (0,), 1), ((), (1,), 1), (((0, 1),), (), 0)])
        self.assert_exactly((system.solutions(), refused_share(system, paper_of((1, 1)))), ((), Share(1, 14)))

    def test_every_system_of_one_unknown(self):
        equations = [((), singles, right) for singles in ((), (0,)) for right in (0, 1)]
        papers = [TablePaper(1, f, g) for f, g in product(words_of(2), words_of(2))]
        for many in range(3):
            for chosen in product(equations, repeat=many):
                system = System(1, chosen)
                shares = [refused_share(system, paper) for paper in papers]
                if solutions_of(1, chosen) == ():
                    self.assertFalse(any(share.is_below(Share(1, 14)) for share in shares))
                    self.assertIn(Share(1, 14), shares)
                for word in solutions_of(1, chosen):
                    self.assert_exactly(shares[papers.index(written(paper_of(word)))], Share(0, 1))
                for paper, share in zip(papers, shares):
                    if share.is_below(Share(1, 14)):
                        self.assert_read_off(system, paper)

    def assert_read_off(self, system, paper):
        """One nearest sum alone of the letters at words, and a solution."""
        table = Table(paper.n, [paper.letter_f(word) for word in all_words(paper.n)])
        found = nearest_sums(table)
        self.assertEqual(len(found), 1)
        self.assertIn(found[0], solutions_of(system.n, system.equations))
        self.assert_exactly((solution_read(system, paper), solution_mended(system, paper)), (found[0], found[0]))

    def test_systems_of_more_unknowns(self):
        dice = dice_for("overview")
        low = 0
        for n in (2, 3, 5, 7):
            for many in (1, 2, 3 * n):
                system = random_system(dice, n, many)
                solutions = solutions_of(n, system.equations)
                for word in (random_word(dice, n), *solutions[:2]):
                    papers = [paper_of(word), SumsPaper(word, random_matrix(dice, n))]
                    papers += [SumsPaper(word, outer(word, word), **random_changes(dice, n, k)) for k in (1, 2, 9)]
                    for paper in papers + ([random_table_paper(dice, n)] if n < 4 else []):
                        share = refused_share(system, paper)
                        if share.is_below(Share(1, 14)):
                            self.assert_read_off(system, paper)
                            low += 1
                    wanted = Share(0, 1) if word in solutions else Share(1, 14)
                    self.assert_exactly(refused_share(system, paper_of(word)), wanted)
        self.assertGreater(low, 10)

    def test_the_test_of_sums_at_two_words(self):
        dice = dice_for("overview sums")
        for n in range(1, 8):
            for table in some_tables(dice, n):
                refused = Share(1, 1) - passing_share(table)
                self.assertFalse(refused.is_below(Share(least_distance(table), len(table))))
                self.assertEqual(distance(table, sum_table(nearest_sums(table)[0])), least_distance(table))

    def test_what_is_returned_may_be_passed_on(self):
        system = SYSTEM
        for word in system.solutions():
            square, bit = system.drawn((1, 1))
            self.assert_exactly(inner(outer(word, word), square), bit)
            self.assert_exactly(times(word, square) in words_of(3), True)
            for kind in (0, 1):
                self.assertTrue(all(passes(system, written(paper_of(word)), kind, t) for t in all_tapes(system, kind)))
            self.assertEqual(written(paper_of(word)).letter_g(squares_of(3)[-1]), sum(map(sum, outer(word, word))) % 2)


if __name__ == "__main__":
    unittest.main()
