"""[20]: the module papers."""

import inspect
import unittest

from fourread import papers
from fourread.errors import InvalidPaper, InvalidSquare, InvalidWord, TooMany
from fourread.papers import SumsPaper, TablePaper, paper_of, written
from fourread.shares import Share
from fourread.tables import Table
from tests.support import (
    Case, NO_INTEGERS, NO_MATRICES, NO_WORDS, OBJECTS, dice_for, inner, nested, outer, random_changes, random_matrix,
    random_sums_paper, random_table_paper, random_word, some_of, squares_of, unit_matrix, words_of,
)


def no_rows_of_bits(many):
    """Values that are no tuple of so many bits, each for a reason of its own."""
    bits = (0, 1) * (many // 2)
    wrong = [
        None, True, False, 0, 1, "", "01" * (many // 2), list(bits), [], (), (bits,), [bits], bits[1:], bits[:-1],
        bits + (0,), bits + bits, (0,) * (2 * many), (1,), nested(bits, 9), nested(0, 10), *OBJECTS,
    ]
    for value in (2, -1, 2 ** 70, True, False, None, "0", "1", "", (), (0,), [1], Share(1, 1), Table(1, (0, 1))):
        wrong = wrong + [(value,) + bits[1:], bits[:-1] + (value,), bits[:1] + (value,) + bits[2:]]
    return wrong


def papers_of(dice, n):
    """Papers for n, of both classes as far as there are."""
    found = [paper_of((1,) * n), random_sums_paper(dice, n, 4)]
    return found + [random_table_paper(dice, n)] if n < 4 else found


def assert_sums_paper(case, paper, *, word, square, words=(), squares=()):
    case.assertIs(type(paper), SumsPaper)
    found = (paper.n, paper.word, paper.square, paper.words, paper.squares)
    case.assert_exactly(found, (len(word), word, square, words, squares))


class InterfaceTest(Case):
    def test_names(self):
        self.assert_interface(papers, {"paper_of": ["word"], "written": ["paper"]})
        parameters = {"TablePaper": ["n", "f", "g"], "SumsPaper": ["word", "square", "words", "squares"]}
        for name, wanted in parameters.items():
            found = vars(papers)[name]
            self.assertEqual(found.__module__, "fourread.papers")
            self.assertEqual(list(inspect.signature(found).parameters), wanted)
            for method, named in {"letter_f": ["word"], "letter_g": ["square"]}.items():
                self.assertEqual(list(inspect.signature(vars(found)[method]).parameters)[1:], named)
            self.assertIn("__eq__", vars(found))
            self.assertIn("__init__", vars(found))

    def test_changes_are_passed_by_name_alone(self):
        parameters = inspect.signature(SumsPaper).parameters
        for name in ("words", "squares"):
            self.assertIs(parameters[name].kind, inspect.Parameter.KEYWORD_ONLY)
            self.assert_exactly(parameters[name].default, ())
        with self.assertRaises(TypeError):
            SumsPaper((0,), ((0,),), ())

    def test_arguments_by_name(self):
        paper = TablePaper(g=(1, 0), n=1, f=(0, 1))
        self.assert_exactly((paper.n, paper.f, paper.g), (1, (0, 1), (1, 0)))
        self.assert_exactly((paper.letter_f(word=(1,)), paper.letter_g(square=((0,),))), (1, 1))
        paper = SumsPaper(squares=(((1,),),), words=((0,), (1,)), square=((0,),), word=(1,))
        assert_sums_paper(self, paper, word=(1,), square=((0,),), words=((0,), (1,)), squares=(((1,),),))
        self.assert_exactly((paper.letter_f(word=(0,)), paper.letter_g(square=((1,),))), (1, 1))
        assert_sums_paper(self, paper_of(word=(1, 0)), word=(1, 0), square=((1, 0), (0, 0)))
        self.assertEqual(written(paper=paper), TablePaper(1, (1, 0), (0, 1)))


class TablePaperTest(Case):
    def test_attributes_and_letters(self):
        dice = dice_for("TablePaper")
        for n in (1, 2, 3):
            for _ in range(6):
                f, g = random_word(dice, 2 ** n), random_word(dice, 2 ** (n * n))
                for paper in (TablePaper(n, f, g), TablePaper(n, f=f, g=g)):
                    self.assert_exactly((paper.n, paper.f, paper.g), (n, f, g))
                    self.assert_exactly(tuple(paper.letter_f(word) for word in words_of(n)), f)
                    self.assert_exactly(tuple(paper.letter_g(square) for square in squares_of(n)), g)

    def test_each_letter_alone(self):
        for n in (1, 2):
            for at, word in enumerate(words_of(n)):
                f = tuple(int(k == at) for k in range(2 ** n))
                paper = TablePaper(n, f, (0,) * 2 ** (n * n))
                self.assertEqual([x for x in words_of(n) if paper.letter_f(x)], [word])
                self.assertEqual([x for x in squares_of(n) if paper.letter_g(x)], [])
            for at, square in enumerate(squares_of(n)):
                g = tuple(int(k == at) for k in range(2 ** (n * n)))
                paper = TablePaper(n, (0,) * 2 ** n, g)
                self.assertEqual([x for x in squares_of(n) if paper.letter_g(x)], [square])

    def test_wrong_sizes_come_first(self):
        for n in [0, 4, 5, 12, 13, -1, -3, 2 ** 70, *NO_INTEGERS]:
            for f, g in [((0, 1), (0, 1)), (None, None), ([], []), ((0,) * 16, (0,) * 2 ** 16), ((0, 2), (1, 0))]:
                self.assert_raises(InvalidPaper, {"part": "size", "place": 0}, TablePaper, n, f, g)

    def test_wrong_f_comes_second(self):
        for n in (1, 2, 3):
            for f in no_rows_of_bits(2 ** n):
                for g in ((0, 1) * 2 ** (n * n - 1), None, []):
                    self.assert_raises(InvalidPaper, {"part": "f", "place": 0}, TablePaper, n, f, g)

    def test_wrong_g(self):
        for n in (1, 2, 3):
            for g in no_rows_of_bits(2 ** (n * n)):
                self.assert_raises(InvalidPaper, {"part": "g", "place": 0}, TablePaper, n, (1, 0) * 2 ** (n - 1), g)
            self.assert_raises(InvalidPaper, {"part": "g", "place": 0}, TablePaper, n, (0,) * 2 ** n, (0,) * (n * n))


class SumsPaperTest(Case):
    def test_letters(self):
        dice = dice_for("SumsPaper")
        for n in (1, 2, 3):
            words, squares = words_of(n), squares_of(n)
            for _ in range(12):
                word, square = dice.choice(words), dice.choice(squares)
                changed = some_of(dice, words, dice.randrange(5)), some_of(dice, squares, dice.randrange(9))
                changes = dict(zip(("words", "squares"), changed))
                paper = SumsPaper(word, square, **changes)
                assert_sums_paper(self, paper, word=word, square=square, **changes)
                for x in words:
                    self.assert_exactly(paper.letter_f(x), (inner(word, x) + (x in changes["words"])) % 2)
                for x in squares if n < 3 else (*changes["squares"], *dice.sample(squares, 40)):
                    self.assert_exactly(paper.letter_g(x), (inner(square, x) + (x in changes["squares"])) % 2)

    def test_without_changes(self):
        for n in (1, 2):
            for word in words_of(n):
                for square in squares_of(n)[::3]:
                    paper = SumsPaper(word, square)
                    assert_sums_paper(self, paper, word=word, square=square)
                    self.assert_exactly([paper.letter_f(x) for x in words_of(n)], [inner(word, x) for x in words_of(n)])
                    found = [paper.letter_g(x) for x in squares_of(n)]
                    self.assert_exactly(found, [inner(square, x) for x in squares_of(n)])

    def test_all_places_changed(self):
        for n in (1, 2):
            paper = SumsPaper((1,) * n, ((1,) * n,) * n, words=words_of(n), squares=squares_of(n))
            for x in words_of(n):
                self.assert_exactly(paper.letter_f(x), 1 - sum(x) % 2)
            for x in squares_of(n):
                self.assert_exactly(paper.letter_g(x), 1 - sum(map(sum, x)) % 2)

    def test_papers_of_many_bits(self):
        dice = dice_for("large papers")
        for n in range(4, 13):
            word, square, changes = random_word(dice, n), random_matrix(dice, n), random_changes(dice, n, 20)
            paper = SumsPaper(word, square, **changes)
            assert_sums_paper(self, paper, word=word, square=square, **changes)
            for x in [*changes["words"], *[random_word(dice, n) for _ in range(20)]]:
                self.assert_exactly(paper.letter_f(x), (inner(word, x) + (x in changes["words"])) % 2)
            for x in [*changes["squares"], *[random_matrix(dice, n) for _ in range(20)]]:
                self.assert_exactly(paper.letter_g(x), (inner(square, x) + (x in changes["squares"])) % 2)

    def test_wrong_words_come_first(self):
        for word in NO_WORDS:
            for square in (((1,),), ((1, 0), (0, 1)), None, []):
                for changes in ({}, {"words": None}, {"words": [], "squares": []}):
                    self.assert_raises(InvalidPaper, {"part": "word", "place": 0}, SumsPaper, word, square, **changes)

    def test_wrong_squares_come_second(self):
        for n in (1, 2, 3, 12):
            for square in [*NO_MATRICES, unit_matrix(n % 12 + 1), unit_matrix(n)[1:], (0,) * n, list(unit_matrix(n))]:
                for changes in ({}, {"words": None}, {"words": [], "squares": []}, {"squares": ((),)}):
                    wanted = {"part": "square", "place": 0}
                    self.assert_raises(InvalidPaper, wanted, SumsPaper, (1,) * n, square, **changes)

    def test_no_tuples_of_changes(self):
        values = [None, True, False, 0, 1, "", "01", [], [(0, 1)], [((0, 1), (1, 0))], [(0, 0), (0, 1)], *OBJECTS]
        for value in values:
            for squares in ((), None, [], (None,)):
                changes = {"words": value, "squares": squares}
                wanted = {"part": "words", "place": 0}
                self.assert_raises(InvalidPaper, wanted, SumsPaper, (0, 1), unit_matrix(2), **changes)
            for words in ((), ((0, 0), (1, 0))):
                changes = {"words": words, "squares": value}
                wanted = {"part": "squares", "place": 0}
                self.assert_raises(InvalidPaper, wanted, SumsPaper, (0, 1), unit_matrix(2), **changes)

    def test_the_first_wrong_changed_word(self):
        ahead = ((0, 0, 1), (0, 1, 0), (0, 1, 1), (1, 0, 1))
        wrong = [*NO_WORDS, (0, 1), (1, 1, 1, 1), (0,) * 12, [1, 1, 1], ((1, 1, 1),)]
        # At each place also a word that is not after the one before it.
        behind = [(0, 0, 0), (0, 0, 1), (0, 1, 0), (0, 1, 1), (1, 0, 0), (1, 0, 1)]
        for place in range(5):
            for value in wrong + (behind[:place + 1 + (place == 4)] if place else []):
                for rest in ((), ((1, 1, 0),), (None,), (value, (0, 0, 0))):
                    words = ahead[:place] + (value,) + rest
                    for squares in ((), None, (None,)):
                        self.assert_raises(
                            InvalidPaper, {"part": "words", "place": place}, SumsPaper, (0, 1, 0), unit_matrix(3),
                            words=words, squares=squares,
                        )

    def test_the_first_wrong_changed_square(self):
        squares = squares_of(2)
        wrong = [*NO_MATRICES, ((1,),), unit_matrix(3), unit_matrix(12), (1, 0, 0, 1), [(1, 1), (1, 1)], (1, 1)]
        for place in range(5):
            ahead = squares[1:12:2][:place]
            behind = [square for square in squares if place and square <= ahead[-1]]
            for value in wrong + behind:
                for rest in ((), (squares[-1],), (None,), (value, squares[0])):
                    for words in ((), ((0, 1), (1, 1))):
                        self.assert_raises(
                            InvalidPaper, {"part": "squares", "place": place}, SumsPaper, (1, 0), unit_matrix(2),
                            words=words, squares=ahead + (value,) + rest,
                        )


class PaperOfTest(Case):
    def test_words(self):
        for n in range(1, 7):
            for word in words_of(n):
                assert_sums_paper(self, paper_of(word), word=word, square=outer(word, word))
        dice = dice_for("paper_of")
        for n in range(7, 13):
            word = random_word(dice, n)
            assert_sums_paper(self, paper_of(word), word=word, square=outer(word, word))

    def test_wrong_words(self):
        for word in NO_WORDS:
            self.assert_raises(InvalidPaper, {"part": "word", "place": 0}, paper_of, word)


class LettersTest(Case):
    def test_wrong_words(self):
        dice = dice_for("letter_f")
        for n in (1, 2, 3, 12):
            for paper in papers_of(dice, n):
                for word in [*NO_WORDS, (0,) * (n % 12 + 1), (1,) * (n + 1), ((0,) * n,), unit_matrix(n)]:
                    self.assert_raises(InvalidWord, {"value": word}, paper.letter_f, word)

    def test_wrong_squares(self):
        dice = dice_for("letter_g")
        for n in (1, 2, 3, 12):
            for paper in papers_of(dice, n):
                for square in [*NO_MATRICES, unit_matrix(n % 12 + 1), unit_matrix(n)[:-1], (0,) * (n * n), (1,) * n]:
                    self.assert_raises(InvalidSquare, {"value": square}, paper.letter_g, square)


class EqualTest(Case):
    def test_papers(self):
        found = [
            TablePaper(1, (0, 0), (0, 0)), TablePaper(1, (0, 1), (0, 0)), TablePaper(1, (0, 0), (0, 1)),
            TablePaper(1, (0, 1), (0, 1)), TablePaper(2, (0,) * 4, (0,) * 16),
            TablePaper(2, (0,) * 4, (0,) * 15 + (1,)), TablePaper(2, (1,) + (0,) * 3, (0,) * 16),
            SumsPaper((0,), ((0,),)), SumsPaper((1,), ((0,),)), SumsPaper((0,), ((1,),)), SumsPaper((1,), ((1,),)),
            SumsPaper((0,), ((0,),), words=((0,),)), SumsPaper((0,), ((0,),), squares=(((0,),),)),
            SumsPaper((0,), ((0,),), words=((1,),)), SumsPaper((0,), ((0,),), words=((0,), (1,))),
            SumsPaper((0,), ((0,),), words=((1,),), squares=(((0,),),)), SumsPaper((0,), ((0,),), squares=(((1,),),)),
            SumsPaper((0, 0), ((0, 0), (0, 0))), SumsPaper((0, 0), ((0, 0), (0, 1))),
            SumsPaper((0, 0), ((0, 0), (0, 0)), words=((0, 0),)), paper_of((1, 0)), paper_of((1,) * 12),
        ]
        for place, one in enumerate(found):
            for beside, other in enumerate(found):
                self.assert_exactly((one == other, one != other), (place == beside, place != beside))

    def test_equal_papers_that_are_not_the_same(self):
        dice = dice_for("equal papers")
        for n in range(1, 13):
            word, square, changes = random_word(dice, n), random_matrix(dice, n), random_changes(dice, n, 5)
            one, other = SumsPaper(word, square, **changes), SumsPaper(word, square, **changes)
            self.assert_exactly((one == other, one != other), (True, False))
            self.assert_exactly(paper_of(word) == SumsPaper(word, outer(word, word), words=(), squares=()), True)
        for n in (1, 2, 3):
            f, g = random_word(dice, 2 ** n), random_word(dice, 2 ** (n * n))
            one, other = TablePaper(n, f, g), TablePaper(n, f, g)
            self.assert_exactly((one == other, one != other), (True, False))

    def test_both_classes_and_other_values(self):
        for n in (1, 2, 3):
            one, other = paper_of((1,) * n), written(paper_of((1,) * n))
            self.assert_exactly((one == other, other == one, one != other, other != one), (False, False, True, True))
        others = [None, True, False, 0, 1, "", (), [], (1, (0, 1), (0, 1)), ((1,), ((1,),)), (0, 1), Share(0, 1)]
        for paper in (TablePaper(1, (0, 1), (0, 1)), paper_of((0, 1))):
            for value in [*others, Table(1, (0, 1)), InvalidWord(1), nested(1, 10)]:
                self.assert_exactly((paper == value, paper != value), (False, True))
                self.assert_exactly((value == paper, value != paper), (False, True))


class WrittenTest(Case):
    def test_all_letters(self):
        dice = dice_for("written")
        for n in (1, 2, 3):
            for paper in [paper_of(random_word(dice, n))] + [random_sums_paper(dice, n, 6) for _ in range(4)]:
                found = written(paper)
                self.assertIs(type(found), TablePaper)
                f = tuple((inner(paper.word, x) + (x in paper.words)) % 2 for x in words_of(n))
                g = tuple((inner(paper.square, x) + (x in paper.squares)) % 2 for x in squares_of(n))
                self.assert_exactly((found.n, found.f, found.g), (n, f, g))

    def test_table_papers_stay(self):
        dice = dice_for("written tables")
        for n in (1, 2, 3):
            paper = random_table_paper(dice, n)
            found = written(paper)
            self.assertIs(type(found), TablePaper)
            self.assert_exactly((found.n, found.f, found.g), (paper.n, paper.f, paper.g))

    def test_example(self):
        paper = SumsPaper((0, 1), ((0, 0), (0, 1)), words=((1, 0),), squares=(((0, 0), (0, 0)),))
        self.assertEqual(written(paper), TablePaper(2, (0, 1, 1, 1), (1, 1) + (0, 1) * 7))

    def test_too_many_letters(self):
        dice = dice_for("too many letters")
        for n in range(4, 13):
            for paper in (paper_of((1,) * n), random_sums_paper(dice, n, 4)):
                self.assert_raises(TooMany, {"what": "letters"}, written, paper)


if __name__ == "__main__":
    unittest.main()
