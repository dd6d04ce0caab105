"""[23]: the module readoff."""

import unittest
from itertools import product

from fourread import readoff
from fourread.errors import InvalidPaper, TooMany
from fourread.exact import refused_share
from fourread.nearest import nearest_sums
from fourread.papers import SumsPaper, TablePaper, paper_of, written
from fourread.readoff import solution_mended, solution_read
from fourread.shares import Share
from fourread.systems import System
from fourread.tables import Table
from fourread.throws import Judge
from tests.support import (
    Case, OBJECTS, dice_for, inner, nested, outer, plus, random_matrix, random_sums_paper, random_system,
    random_table_paper, random_word, solutions_of, words_of,
)

FUNCTIONS = (solution_read, solution_mended)


def letters_at(paper):
    return {word: paper.letter_f(word) for word in words_of(paper.n)}


def read_by_words(system, paper):
    """What solution_read gives, by the document's words."""
    f = letters_at(paper)
    distances = {word: sum(inner(word, x) != f[x] for x in f) for word in f}
    found = [word for word in f if distances[word] == min(distances.values())]
    return next((word for word in found if word in solutions_of(system.n, system.equations)), None)


def mended_by_words(system, paper):
    """What solution_mended gives, by the document's words."""
    f = letters_at(paper)
    word = ()
    for place in range(paper.n):
        unit = tuple(int(at == place) for at in range(paper.n))
        ones = sum(f[plus(unit, by)] != f[by] for by in f)
        if 2 * ones == len(f):
            return None
        word = word + (int(2 * ones > len(f)),)
    return word if word in solutions_of(system.n, system.equations) else None


class InterfaceTest(Case):
    def test_names(self):
        self.assert_interface(readoff, {
            "solution_read": ["system", "paper"], "solution_mended": ["system", "paper"],
        })

    def test_arguments_by_name(self):
        system = System(2, [((), (0,), 1)])
        for function in FUNCTIONS:
            self.assert_exactly(function(paper=paper_of((1, 0)), system=system), (1, 0))
            self.assert_exactly(function(paper=paper_of((0, 1)), system=system), None)


class ReadTest(Case):
    def assert_read(self, system, paper):
        self.assert_exactly(solution_read(system, paper), read_by_words(system, paper))
        self.assert_exactly(solution_mended(system, paper), mended_by_words(system, paper))

    def test_all_letters_of_one_and_two_unknowns(self):
        dice = dice_for("readoff")
        for n in (1, 2):
            systems = [System(n, [])] + [random_system(dice, n, many) for many in (1, 1, 2)]
            for f in product((0, 1), repeat=2 ** n):
                paper = TablePaper(n, f, random_word(dice, 2 ** (n * n)))
                for system in systems:
                    self.assert_read(system, paper)

    def test_letters_of_three_unknowns(self):
        dice = dice_for("readoff 3")
        for many in (0, 1, 2) * 8:
            system = random_system(dice, 3, many)
            for paper in (random_table_paper(dice, 3), random_sums_paper(dice, 3, 2), random_sums_paper(dice, 3, 5)):
                self.assert_read(system, paper)

    def test_papers_of_solutions_and_of_other_words(self):
        dice = dice_for("readoff words")
        for n in range(1, 9):
            for many in (0, 1, 2, 4):
                system = random_system(dice, n, many)
                for word in {random_word(dice, n), *system.solutions()[:2], *system.solutions()[-1:]}:
                    wanted = word if word in system else None
                    for paper in (paper_of(word), SumsPaper(word, random_matrix(dice, n))):
                        for function in FUNCTIONS:
                            self.assert_exactly(function(system, paper), wanted)

    def test_papers_with_changed_words(self):
        dice = dice_for("readoff changed")
        for n in range(2, 7):
            for many in (1, 2 ** n // 4, 2 ** n // 2, 20):
                system = random_system(dice, n, 1)
                changes = random_sums_paper(dice, n, many)
                for word in (random_word(dice, n), *system.solutions()[:1]):
                    paper = SumsPaper(word, changes.square, words=changes.words, squares=changes.squares)
                    self.assert_read(system, paper)

    def test_the_first_nearest_sum_that_is_a_solution(self):
        # The sums of 01, 10 and 11 are all nearest.
        paper = TablePaper(2, (0, 1, 1, 1), (0,) * 16)
        found = [
            ([], (0, 1)), ([((), (0,), 1)], (1, 0)), ([((), (0, 1), 1)], (0, 1)), ([((), (0, 1), 0)], (1, 1)),
            ([((), (0,), 0), ((), (1,), 0)], None), ([((), (), 1)], None),
        ]
        for equations, wanted in found:
            self.assert_exactly(solution_read(System(2, equations), paper), wanted)
            # Each bit is mended to 1 at just a half.
            self.assert_exactly(solution_mended(System(2, equations), paper), None)

    def test_a_bit_that_is_mended_at_just_a_half(self):
        # The first bit is mended to 1 always, the second one for a half.
        paper = TablePaper(2, (0, 0, 1, 1), (0,) * 16)
        self.assert_exactly(solution_mended(System(2, []), paper), (1, 0))
        paper = TablePaper(2, (0, 1, 0, 0), (0,) * 16)
        self.assert_exactly(solution_mended(System(2, []), paper), None)
        self.assert_exactly(solution_read(System(2, []), paper), (0, 0))
        for n in range(2, 7):
            # Changed at the words with 0 at both ends: there each end is mended to 1 at just a half.
            words = tuple(word for word in words_of(n) if word[0] == 0 and word[-1] == 0)
            for word in ((1,) * n, (0,) * n):
                paper = SumsPaper(word, outer(word, word), words=words)
                self.assert_exactly(solution_mended(System(n, []), paper), None)
                self.assert_read(System(n, []), paper)

    def test_letters_of_squares_do_not_count(self):
        dice = dice_for("readoff squares")
        for n in (1, 2, 3):
            system = random_system(dice, n, 1)
            f = random_word(dice, 2 ** n)
            found = [TablePaper(n, f, random_word(dice, 2 ** (n * n))) for _ in range(4)]
            for function in FUNCTIONS:
                self.assertEqual(len({function(system, paper) for paper in found}), 1)

    def test_ten_unknowns(self):
        dice = dice_for("readoff 10")
        for many in (1, 2):
            system = random_system(dice, 10, many)
            for word in (system.solutions()[0], system.solutions()[-1], random_word(dice, 10)):
                changes = random_sums_paper(dice, 10, 20)
                paper = SumsPaper(word, changes.square, words=changes.words, squares=changes.squares)
                for function in FUNCTIONS:
                    self.assert_exactly(function(system, paper), word if word in system else None)

    def test_more_than_ten_unknowns(self):
        dice = dice_for("readoff 12")
        for n in (11, 12):
            system = random_system(dice, n, 2)
            for paper in (paper_of(random_word(dice, n)), random_sums_paper(dice, n, 4)):
                for function in FUNCTIONS:
                    self.assert_raises(TooMany, {"what": "letters"}, function, system, paper)

    def test_wrong_papers_come_first(self):
        dice = dice_for("readoff wrong")
        values = [None, True, False, 0, 1, "", "11", (), [], (1, 1), Share(1, 2), Table(2, (0, 1, 1, 1)), nested(1, 10)]
        for n in (2, 4, 10, 11, 12):
            system = random_system(dice, n, 1)
            papers = [paper_of((1,) * size) for size in range(1, 13) if size != n] + [random_table_paper(dice, 3)]
            for paper in [*values, *OBJECTS[:8], *papers, [paper_of((1,) * n)], Judge(system, paper_of((1,) * n))]:
                for function in FUNCTIONS:
                    self.assert_raises(InvalidPaper, {"part": "size", "place": 0}, function, system, paper)


class SentenceTest(Case):
    def test_papers_that_are_refused_for_less_than_a_fourteenth(self):
        dice = dice_for("less than a fourteenth")
        found = 0
        for n in range(1, 11):
            for many in (0, 1, 2, 3):
                system = random_system(dice, n, many)
                for word in system.solutions()[:2]:
                    papers = [paper_of(word)] + ([written(paper_of(word))] if n < 4 else [])
                    for most in (1, 2, 5, 20):
                        changes = random_sums_paper(dice, n, most)
                        paper = SumsPaper(word, outer(word, word), words=changes.words, squares=changes.squares)
                        papers = papers + [paper, SumsPaper(word, random_matrix(dice, n), words=changes.words)]
                    for paper in papers:
                        if refused_share(system, paper).is_below(Share(1, 14)):
                            table = Table(n, [paper.letter_f(at) for at in words_of(n)])
                            self.assert_exactly(nearest_sums(table), (word,))
                            self.assert_exactly([function(system, paper) for function in FUNCTIONS], [word, word])
                            found += 1
        self.assertGreater(found, 80)

    def test_all_letters_of_words_beside_a_solution(self):
        for n in (1, 2):
            for word in words_of(n):
                g = written(paper_of(word)).g
                system = System(n, [((), (place,), bit) for place, bit in enumerate(word)])
                for f in product((0, 1), repeat=2 ** n):
                    paper = TablePaper(n, f, g)
                    if refused_share(system, paper).is_below(Share(1, 14)):
                        self.assert_exactly([function(system, paper) for function in FUNCTIONS], [word, word])


if __name__ == "__main__":
    unittest.main()
