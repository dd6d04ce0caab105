"""[21]: the module throws."""

import inspect
import unittest

from fourread import throws
from fourread.errors import InvalidNumber, InvalidPaper, InvalidTape, TooMany
from fourread.papers import TablePaper, paper_of, written
from fourread.shares import Share
from fourread.systems import System
from fourread.tables import Table
from fourread.throws import Judge, all_tapes, passes, places_read, tape_length
from fourread.words import all_words
from tests.support import (
    Case, NO_INTEGERS, OBJECTS, dice_for, length_of_tapes, letters_of, nested, random_sums_paper,
    random_system, random_table_paper, random_word, square_from, throw_of, unit_matrix, words_of,
)

KINDS = range(7)

ONE = System(1, [((), (0,), 1)])
TWO = System(2, [(((0, 1),), (1,), 1), ((), (0, 1), 0)])

WRONG_KINDS = [-1, 7, 8, 12, -7, 2 ** 70, *NO_INTEGERS]


def wrong_tapes(length):
    """Values that are no tuple of so many bits, each for a reason of its own."""
    bits = (0, 1, 1) * length
    wrong = [
        None, True, False, 0, 1, -1, "", "0" * length, list(bits[:length]), [], bits[:length - 1], bits[:length + 1],
        bits[:2 * length], (bits[:length],), bits[:length] + ((),), nested(bits[:length], 8), nested(0, 10), *OBJECTS,
    ]
    for value in (2, -1, 2 ** 70, True, False, None, "0", "", (), (0,), [1], Share(1, 1), Table(1, (0, 1))):
        wrong = wrong + [(value,) + bits[:length - 1], bits[:length - 1] + (value,)]
    return wrong + [()] * (length > 0)


def wrong_papers(n):
    """Values that are no paper for n."""
    dice = dice_for("wrong papers")
    found = [
        None, True, False, 0, 1, "", "01", (), [], (0, 1), ((1,), ((1,),)), unit_matrix(n), Share(0, 1),
        Table(1, (0, 1)), System(n, []), [paper_of((1,) * n)], (paper_of((1,) * n),), nested(paper_of((1,)), 9),
        nested(1, 10), Judge(ONE, paper_of((1,))), *OBJECTS[:8],
    ]
    for size in range(1, 13):
        if size != n:
            found = found + [paper_of((0,) * size), random_sums_paper(dice, size, 3)]
            found = found + [random_table_paper(dice, size)] if size < 4 else found
    return found


def throws_at(dice, system, many):
    """Throws of all kinds, so many of each."""
    return [
        (kind, random_word(dice, length_of_tapes(system.n, len(system), kind))) for kind in KINDS for _ in range(many)
    ]


def listed_tapes(system, kind):
    """All tapes, iterated over, as their errors may come at the first step alone."""
    return list(all_tapes(system, kind))


def some_systems(dice):
    """Systems of 1 to 12 unknowns, with no equation and with some."""
    return [random_system(dice, n, many) for n in range(1, 13) for many in (0, 1, 3)]


class InterfaceTest(Case):
    def test_names(self):
        self.assert_interface(throws, {
            "tape_length": ["system", "kind"], "all_tapes": ["system", "kind"],
            "places_read": ["system", "kind", "tape"], "passes": ["system", "paper", "kind", "tape"],
        })
        self.assertIs(vars(throws)["Judge"], Judge)
        self.assertEqual(Judge.__module__, "fourread.throws")
        self.assertEqual(list(inspect.signature(Judge).parameters), ["system", "paper"])
        self.assertEqual(list(inspect.signature(vars(Judge)["throw"]).parameters)[1:], ["kind", "tape"])
        for name in ("thrown", "refused", "letters"):
            self.assertIsInstance(vars(Judge)[name], property)

    def test_arguments_by_name(self):
        self.assert_exactly(tape_length(kind=4, system=TWO), 8)
        self.assert_exactly(tuple(all_tapes(kind=6, system=System(1, []))), ((0,), (1,)))
        self.assert_exactly(places_read(tape=(1, 1), kind=0, system=ONE), (("f", (1,)), ("f", (1,)), ("f", (0,))))
        paper = TablePaper(1, (0, 1), (1, 0))
        self.assert_exactly(passes(tape=(0, 1), kind=2, paper=paper, system=ONE), False)
        judge = Judge(paper=paper, system=ONE)
        self.assert_exactly((judge.throw(tape=(0, 1), kind=2), judge.thrown, judge.refused), (False, 1, 1))


class TapesTest(Case):
    def test_lengths(self):
        dice = dice_for("tape_length")
        for n in range(1, 13):
            for many in (0, 1, 2, 40):
                system = random_system(dice, n, many)
                wanted = [2 * n, 2 * n, 2 * n * n, 2 * n * n, 2 * n + n * n, 2 * n + n * n, many + n * n]
                self.assert_exactly([tape_length(system, kind) for kind in KINDS], wanted)

    def test_all_tapes_of_at_most_twelve_bits(self):
        dice = dice_for("all_tapes")
        for n in range(1, 7):
            for many in range(13):
                system = random_system(dice, n, many)
                for kind in KINDS:
                    length = length_of_tapes(n, many, kind)
                    if length <= 12:
                        self.assert_exactly(tuple(all_tapes(system, kind)), words_of(length))

    def test_more_than_twelve_bits(self):
        dice = dice_for("many tapes")
        for n, many in [(1, 12), (1, 13), (2, 8), (2, 9), (3, 3), (3, 4), (6, 0), (7, 0), (12, 40)]:
            system = random_system(dice, n, many)
            for kind in KINDS:
                if length_of_tapes(n, many, kind) > 12:
                    self.assert_raises(TooMany, {"what": "tapes"}, listed_tapes, system, kind)

    def test_wrong_kinds(self):
        for system in (ONE, TWO, System(12, []), System(7, [((), (0,), 1)] * 40)):
            for kind in WRONG_KINDS:
                self.assert_raises(InvalidNumber, {"value": kind}, tape_length, system, kind)
                self.assert_raises(InvalidNumber, {"value": kind}, listed_tapes, system, kind)


class PlacesTest(Case):
    def test_all_kinds(self):
        dice = dice_for("places_read")
        for system in some_systems(dice):
            for kind, tape in throws_at(dice, system, 3):
                places, _ = throw_of(system.n, system.equations, kind, tape)
                self.assert_exactly(places_read(system, kind, tape), tuple(places))

    def test_all_tapes_of_small_systems(self):
        for system in (System(1, []), ONE, TWO):
            for kind in KINDS:
                for tape in words_of(tape_length(system, kind)):
                    places, _ = throw_of(system.n, system.equations, kind, tape)
                    self.assert_exactly(places_read(system, kind, tape), tuple(places))

    def test_examples(self):
        self.assert_exactly(places_read(TWO, 1, (1, 0, 1, 1)), (("f", (1, 0)), ("f", (1, 1)), ("f", (0, 1))))
        one, other = ((1, 0), (1, 1)), ((0, 0), (1, 0))
        wanted = (("g", one), ("g", other), ("g", ((1, 0), (0, 1))))
        self.assert_exactly(places_read(TWO, 3, (1, 0, 1, 1, 0, 0, 1, 0)), wanted)
        wanted = (("f", (1, 0)), ("f", (1, 1)), ("g", ((0, 1), (0, 0))), ("g", ((1, 0), (0, 0))))
        self.assert_exactly(places_read(TWO, 5, (1, 0, 1, 1, 0, 1, 0, 0)), wanted)
        wanted = (("g", ((1, 1), (0, 0))), ("g", ((1, 0), (0, 1))))
        self.assert_exactly(places_read(TWO, 6, (1, 0, 1, 1, 0, 0)), wanted)
        wanted = (("g", ((1, 1), (0, 0))), ("g", ((0, 0), (0, 0))))
        self.assert_exactly(places_read(TWO, 6, (1, 1, 1, 1, 0, 0)), wanted)

    def test_a_place_that_is_read_twice(self):
        zero = ((0, 0), (0, 0))
        self.assert_exactly(places_read(TWO, 0, (0, 1, 0, 0)), (("f", (0, 1)), ("f", (0, 0)), ("f", (0, 1))))
        self.assert_exactly(places_read(TWO, 2, (0,) * 8), (("g", zero),) * 3)
        self.assert_exactly(places_read(TWO, 4, (0,) * 8), (("f", (0, 0)),) * 2 + (("g", zero),) * 2)
        self.assert_exactly(places_read(TWO, 6, (0,) * 6), (("g", zero),) * 2)

    def test_wrong_kinds_come_ahead_of_wrong_tapes(self):
        for kind in WRONG_KINDS:
            for tape in ((0, 0), (0,) * 4, None, [], (0, 2)):
                self.assert_raises(InvalidNumber, {"value": kind}, places_read, TWO, kind, tape)
                self.assert_raises(InvalidNumber, {"value": kind}, passes, TWO, paper_of((0, 1)), kind, tape)

    def test_wrong_tapes(self):
        for system in (System(1, []), ONE, TWO, System(3, [((), (), 0)])):
            paper = paper_of((1,) * system.n)
            for kind in KINDS:
                for tape in wrong_tapes(length_of_tapes(system.n, len(system), kind)):
                    self.assert_raises(InvalidTape, {"value": tape}, places_read, system, kind, tape)
                    self.assert_raises(InvalidTape, {"value": tape}, passes, system, paper, kind, tape)


class PassesTest(Case):
    def assert_throws(self, system, paper, kind, tapes):
        for tape in tapes:
            places, verdict = throw_of(system.n, system.equations, kind, tape)
            self.assert_exactly(passes(system, paper, kind, tape), verdict(*letters_of(paper, places)))

    def test_all_tapes_of_small_papers(self):
        dice = dice_for("passes")
        for n, many in [(1, 0), (1, 1), (1, 3), (2, 0), (2, 1), (2, 2)]:
            for _ in range(3):
                system = random_system(dice, n, many)
                word = random_word(dice, n)
                for paper in (random_table_paper(dice, n), random_sums_paper(dice, n, 3), paper_of(word)):
                    for kind in KINDS:
                        self.assert_throws(system, paper, kind, all_tapes(system, kind))

    def test_papers_of_all_sizes(self):
        dice = dice_for("passes all sizes")
        for system in some_systems(dice):
            papers = [random_sums_paper(dice, system.n, 20), paper_of(random_word(dice, system.n))]
            for paper in papers + ([random_table_paper(dice, 3)] if system.n == 3 else []):
                for kind, tape in throws_at(dice, system, 4):
                    self.assert_throws(system, paper, kind, [tape])

    def test_each_kind_by_one_changed_letter(self):
        none, one = (0, 0, 0, 0), (0, 0, 0, 1)
        rows = [(0,) * 16] + [(0,) * k + (1,) + (0,) * (15 - k) for k in range(0, 16, 3)]
        for paper in [TablePaper(2, f, g) for f in (none, one) for g in rows]:
            for kind in KINDS:
                self.assert_throws(TWO, paper, kind, all_tapes(TWO, kind))

    def test_a_system_without_equations(self):
        dice = dice_for("no equations")
        for n in (1, 2, 3):
            system = System(n, [])
            for paper in (random_table_paper(dice, n), random_sums_paper(dice, n, 3)):
                for tape in all_tapes(system, 6):
                    self.assert_exactly(passes(system, paper, 6, tape), True)
                    square = square_from(tape, n)
                    self.assert_exactly(places_read(system, 6, tape), (("g", square), ("g", square)))

    def test_wrong_papers_come_first(self):
        for n in (1, 2, 3, 4, 12):
            system = System(n, [((), (0,), 1)])
            for paper in wrong_papers(n):
                for kind, tape in [(0, (0,) * 2 * n), (7, ()), (None, None), (3, []), (6, (0,) * n * n)]:
                    self.assert_raises(InvalidPaper, {"part": "size", "place": 0}, passes, system, paper, kind, tape)


class JudgeTest(Case):
    def counts(self, judge):
        return judge.thrown, judge.refused, judge.letters

    def test_counts(self):
        dice = dice_for("Judge")
        for system in some_systems(dice)[:15]:
            n = system.n
            papers = [random_sums_paper(dice, n, 9), paper_of(random_word(dice, n))]
            for paper in papers + ([random_table_paper(dice, n)] if n < 4 else []):
                judge, wanted = Judge(system, paper), (0, 0, 0)
                self.assert_exactly(self.counts(judge), wanted)
                for kind, tape in dice.sample(throws_at(dice, system, 5), 35):
                    places, verdict = throw_of(n, system.equations, kind, tape)
                    passed = verdict(*letters_of(paper, places))
                    self.assert_exactly(judge.throw(kind, tape), passed)
                    wanted = (wanted[0] + 1, wanted[1] + (not passed), wanted[2] + len(places))
                    self.assert_exactly(self.counts(judge), wanted)

    def test_each_kind(self):
        for kind, many in enumerate((3, 3, 3, 3, 4, 4, 2)):
            judge = Judge(TWO, paper_of((0, 1)))
            for count in (1, 2, 3):
                self.assert_exactly(judge.throw(kind, (0,) * tape_length(TWO, kind)), True)
                self.assert_exactly(self.counts(judge), (count, 0, many * count))

    def test_each_kind_that_is_refused(self):
        system, paper = System(1, [((), (0,), 0)]), TablePaper(1, (1, 1), (1, 0))
        tapes = [(0, 1), (1, 0), (1, 1), (1, 1), (0, 0, 1), (1, 0, 0), (1, 0)]
        for kind, (tape, many) in enumerate(zip(tapes, (3, 3, 3, 3, 4, 4, 2))):
            judge = Judge(system, paper)
            for count in (1, 2, 3):
                self.assert_exactly(judge.throw(kind, tape), False)
                self.assert_exactly(self.counts(judge), (count, count, many * count))

    def test_throws_that_raise_do_not_count(self):
        judge = Judge(TWO, TablePaper(2, (1, 1, 0, 1), (0, 1) * 8))
        wanted = (0, 0, 0)
        for count in range(3):
            for kind in WRONG_KINDS:
                self.assert_raises(InvalidNumber, {"value": kind}, judge.throw, kind, (0,) * 4)
                self.assert_raises(InvalidNumber, {"value": kind}, judge.throw, kind, None)
            for kind in KINDS:
                for tape in wrong_tapes(length_of_tapes(2, 2, kind)):
                    self.assert_raises(InvalidTape, {"value": tape}, judge.throw, kind, tape)
            self.assert_exactly(self.counts(judge), wanted)
            passed = judge.throw(0, (0, 1, 1, count % 2))
            wanted = (wanted[0] + 1, wanted[1] + (not passed), wanted[2] + 3)
            self.assert_exactly(self.counts(judge), wanted)

    def test_wrong_papers(self):
        for n in (1, 2, 3, 4, 12):
            for paper in wrong_papers(n):
                self.assert_raises(InvalidPaper, {"part": "size", "place": 0}, Judge, System(n, []), paper)

    def test_judges_do_not_share_counts(self):
        one, other = Judge(ONE, paper_of((1,))), Judge(ONE, paper_of((1,)))
        self.assert_exactly(one.throw(0, (1, 1)), True)
        self.assert_exactly((self.counts(one), self.counts(other)), ((1, 0, 3), (0, 0, 0)))

    def test_all_throws_that_are_made(self):
        judge = Judge(ONE, TablePaper(1, (1, 1), (0, 1)))
        found = [judge.throw(kind, tape) for kind in KINDS for tape in all_tapes(ONE, kind)]
        self.assert_exactly(self.counts(judge), (len(found), found.count(False), 3 * 16 + 4 * 16 + 2 * 4))


class SentencesTest(Case):
    def test_at_most_four_letters_and_the_verdict_hangs_on_them(self):
        dice = dice_for("four letters")
        for n in (1, 2):
            system = random_system(dice, n, 2)
            for kind, tape in throws_at(dice, system, 12):
                places = places_read(system, kind, tape)
                self.assertLessEqual(len(places), 4)
                paper = random_table_paper(dice, n)
                kept = {letter: [at for name, at in places if name == letter] for letter in "fg"}
                for _ in range(6):
                    beside = random_table_paper(dice, n)
                    f = [(paper if at in kept["f"] else beside).letter_f(at) for at in all_words(n)]
                    squares = [square_from(bits, n) for bits in all_words(n * n)]
                    g = [(paper if at in kept["g"] else beside).letter_g(at) for at in squares]
                    mixed = TablePaper(n, tuple(f), tuple(g))
                    self.assert_exactly(passes(system, mixed, kind, tape), passes(system, paper, kind, tape))

    def test_the_paper_of_a_solution_passes_every_throw(self):
        dice = dice_for("solutions pass")
        for n, many in [(1, 0), (1, 1), (2, 1), (2, 2)]:
            system = random_system(dice, n, many)
            for solution in system.solutions():
                for kind in KINDS:
                    for tape in all_tapes(system, kind):
                        self.assert_exactly(passes(system, paper_of(solution), kind, tape), True)
                        self.assert_exactly(passes(system, written(paper_of(solution)), kind, tape), True)
        for n in range(3, 13):
            word = random_word(dice, n)
            found = [random_system(dice, n, 1).equations[0] for _ in range(8)]
            system = System(n, [equation for equation in found if System(n, [equation]).first_wrong(word) is None])
            for kind, tape in throws_at(dice, system, 8):
                self.assert_exactly(passes(system, paper_of(word), kind, tape), True)

    def test_a_word_that_is_no_solution_is_refused_by_some_throw(self):
        for word in words_of(2):
            found = [passes(TWO, paper_of(word), 6, tape) for tape in all_tapes(TWO, 6)]
            self.assert_exactly(all(found), word in TWO.solutions())


if __name__ == "__main__":
    unittest.main()
