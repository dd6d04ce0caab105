"""[22]: the module exact."""

import unittest
from collections import Counter
from itertools import product

from fourread import exact
from fourread.errors import InvalidNumber, InvalidPaper
from fourread.exact import nearly_share, passing_bound, refused_by_kind, refused_share
from fourread.matrices import rank_of
from fourread.papers import SumsPaper, TablePaper, paper_of, written
from fourread.shares import Share
from fourread.systems import System, row_added
from fourread.throws import Judge, all_tapes
from tests.support import (
    Case, NO_INTEGERS, OBJECTS, dice_for, drawn_from, inner, nested, outer, plus, random_equation, random_matrix,
    random_sums_paper, random_system, random_table_paper, random_word, squares_of, words_of,
)

KINDS = range(7)

FOURTEENTH = Share(1, 14)

NO_SOLUTION = System(2, [((), (0,), 1), ((), (1,), 1), (((0, 1),), (), 0)])


def number_from(value):
    """The number of a word, or of a square, among those of its size."""
    bits = value if isinstance(value[0], int) else sum(value, ())
    return int("".join(map(str, bits)), 2)


def share_of_true(found):
    return Share(sum(found), len(found))


def shares_of_all_tapes(system, paper):
    """The seven shares, by going through all tapes; the letters are read from lists, to be quick."""
    n, many = system.n, len(system)
    f = [paper.letter_f(word) for word in words_of(n)]
    g = [paper.letter_g(square) for square in squares_of(n)]
    words, squares = range(2 ** n), range(2 ** (n * n))
    outers = [[number_from(outer(one, other)) for other in words_of(n)] for one in words_of(n)]
    drawn = [drawn_from(n, system.equations, chosen) for chosen in product((0, 1), repeat=many)]
    drawn = [(number_from(square), bit) for square, bit in drawn]
    of_words = share_of_true([f[a] ^ f[b] != f[a ^ b] for a in words for b in words])
    of_squares = share_of_true([g[a] ^ g[b] != g[a ^ b] for a in squares for b in squares])
    of_products = share_of_true([
        f[a] & f[b] != g[t] ^ g[t ^ outers[a][b]] for a in words for b in words for t in squares
    ])
    of_drawn = share_of_true([g[t] ^ g[t ^ square] != bit for square, bit in drawn for t in squares])
    return of_words, of_words, of_squares, of_squares, of_products, of_products, of_drawn


def share_by_shifts(paper, draws):
    """The share refused of the draws (square, what should be the sum of both letters), over all squares.

    Only at the changed squares, and at those that are led to them, is g other than the product.
    """
    size = 2 ** (paper.n ** 2)
    changed = set(paper.squares)
    refused = 0
    for square, wanted in draws:
        touched = changed | {plus(square, at) for at in changed}
        odd = sum((at in changed) != (plus(square, at) in changed) for at in touched)
        refused += odd if inner(paper.square, square) == wanted else size - odd
    return Share(refused, size * len(draws))


def share_of_products(paper):
    """What kinds 4 and 5 refuse, by all pairs of words."""
    f = {word: paper.letter_f(word) for word in words_of(paper.n)}
    return share_by_shifts(paper, [(outer(one, other), f[one] * f[other]) for one in f for other in f])


def share_of_draws(system, paper):
    """What kind 6 refuses, by all choices of equations."""
    choices = product((0, 1), repeat=len(system))
    return share_by_shifts(paper, [drawn_from(system.n, system.equations, chosen) for chosen in choices])


def share_of_sums(changed, size):
    """What kinds 0 and 1, or 2 and 3, refuse, by the document's formula."""
    many = len(changed)
    triples = sum(plus(one, other) in changed for one in changed for other in changed)
    return Share(3 * many * size - 6 * many ** 2 + 4 * triples, size ** 2)


def share_of_many_products(paper):
    """What kinds 4 and 5 refuse, for many words: the changes are counted by themselves."""
    n, size, squares = paper.n, 2 ** paper.n, 2 ** (paper.n ** 2)
    word, changed = number_from(paper.word), [number_from(at) for at in paper.words]
    rows = [number_from(row) for row in paper.square]
    f = [(at & word).bit_count() % 2 ^ (at in changed) for at in range(size)]
    odd = 0
    for a in range(size):
        sums = word * f[a]
        for place in range(n):
            sums ^= rows[place] * (a >> n - 1 - place & 1)
        odd += size // 2 if sums else 0
        odd += sum(1 - 2 * ((sums & b).bit_count() % 2) for b in changed) if f[a] else 0
    beside_zero = 2 * sum(f) - 1 if f[0] else 0
    shifts = Counter(plus(one, other) for one in paper.squares for other in paper.squares)
    both = 0
    for shift, many in shifts.items():
        if rank_of(shift) == 1:
            one, other = tuple(map(max, shift)), max(shift)
            both += many * (1 - 2 * (paper.letter_f(one) * paper.letter_f(other) ^ inner(paper.square, shift)))
    rest = (size - 1) ** 2 - 2 * (odd - beside_zero)
    return Share(squares * odd + 2 * len(paper.squares) * rest - 2 * both, size ** 2 * squares)


def changed_paper(dice, system, many):
    """A paper with so many changed words and squares, some of them sums of others, or squares that are drawn."""
    n = system.n
    words = {random_word(dice, n) for _ in range(many // 2)} | {(0,) * n}
    words = sorted(words | {plus(one, other) for one, other in zip(sorted(words), sorted(words)[1:])})
    squares = [random_matrix(dice, n) for _ in range(many // 4)]
    squares = squares + [plus(square, outer(dice.choice(words), dice.choice(words))) for square in squares]
    squares = squares + [plus(one, other) for one, other in zip(squares, squares[1:])]
    for _ in range(many // 4):
        square, _ = drawn_from(n, system.equations, random_word(dice, len(system)))
        squares = [square, plus(square, dice.choice(squares))] + squares
    changes = {"words": tuple(words[:many]), "squares": tuple(sorted(set(squares[:many])))}
    return SumsPaper(random_word(dice, n), random_matrix(dice, n), **changes)


def systems_without_solution(dice, n, most):
    found = [System(n, [((), (), 1)])]
    while len(found) < most:
        system = random_system(dice, n, dice.randrange(1, 4 + 2 * n))
        if system.solutions() == ():
            found.append(system)
    return found


def mean(shares):
    total = Share(0, 1)
    for share in shares:
        total = total + share * Share(1, 7)
    return total


class InterfaceTest(Case):
    def test_names(self):
        self.assert_interface(exact, {
            "refused_by_kind": ["system", "paper"], "refused_share": ["system", "paper"], "nearly_share": ["paper"],
            "passing_bound": ["many"],
        })

    def test_arguments_by_name(self):
        paper = paper_of((1, 1))
        self.assert_exactly(refused_share(paper=paper, system=NO_SOLUTION), FOURTEENTH)
        wanted = (Share(0, 1),) * 6 + (Share(1, 2),)
        self.assert_exactly(refused_by_kind(paper=paper, system=NO_SOLUTION), wanted)
        self.assert_exactly(nearly_share(paper=paper), Share(0, 1))
        self.assert_exactly(passing_bound(many=1), Share(13, 14))


class RefusedTest(Case):
    def assert_refused(self, system, paper, wanted):
        self.assert_exactly(refused_by_kind(system, paper), wanted)
        self.assert_exactly(refused_share(system, paper), mean(wanted))

    def test_all_table_papers_of_one_unknown(self):
        dice = dice_for("exact 1")
        bits = list(product((0, 1), repeat=2))
        for many in range(4):
            system = random_system(dice, 1, many)
            for f, g in product(bits, bits):
                paper = TablePaper(1, f, g)
                self.assert_refused(system, paper, shares_of_all_tapes(system, paper))

    def test_all_sums_papers_of_one_unknown(self):
        dice = dice_for("exact sums 1")
        some_words = [(), ((0,),), ((1,),), ((0,), (1,))]
        some_squares = [(), (((0,),),), (((1,),),), (((0,),), ((1,),))]
        for many in range(3):
            system = random_system(dice, 1, many)
            for word, row, words, squares in product(words_of(1), words_of(1), some_words, some_squares):
                paper = SumsPaper(word, (row,), words=words, squares=squares)
                self.assert_refused(system, paper, shares_of_all_tapes(system, paper))

    def test_papers_of_two_unknowns(self):
        dice = dice_for("exact 2")
        for many in [0, 1, 2, 3, 5] * 4:
            system = random_system(dice, 2, many)
            for paper in (random_table_paper(dice, 2), random_sums_paper(dice, 2, 7), changed_paper(dice, system, 4)):
                wanted = shares_of_all_tapes(system, paper)
                self.assert_refused(system, paper, wanted)
                self.assert_refused(system, written(paper), wanted)

    def test_papers_of_three_unknowns(self):
        dice = dice_for("exact 3")
        for many in (0, 2, 4):
            system = random_system(dice, 3, many)
            for paper in (random_table_paper(dice, 3), changed_paper(dice, system, 12)):
                self.assert_refused(system, paper, shares_of_all_tapes(system, paper))
                self.assert_refused(system, written(paper), refused_by_kind(system, paper))

    def test_extreme_table_papers(self):
        dice = dice_for("extreme")
        for n in (1, 2, 3):
            system = random_system(dice, n, 2)
            for f, g in product((0, 1), repeat=2):
                paper = TablePaper(n, (f,) * 2 ** n, (g,) * 2 ** (n * n))
                self.assert_refused(system, paper, shares_of_all_tapes(system, paper))

    def test_all_kinds_by_tapes_and_a_judge(self):
        dice = dice_for("exact judge")
        system = random_system(dice, 1, 3)
        for paper in (random_table_paper(dice, 1), random_sums_paper(dice, 1, 2)):
            for kind in KINDS:
                judge = Judge(system, paper)
                found = [not judge.throw(kind, tape) for tape in all_tapes(system, kind)]
                self.assert_exactly(Share(judge.refused, judge.thrown), share_of_true(found))
                self.assert_exactly(refused_by_kind(system, paper)[kind], share_of_true(found))

    def test_papers_with_changes_by_pairs_and_choices(self):
        dice = dice_for("exact pairs")
        for n, many in [(2, 6), (3, 0), (3, 5), (4, 6), (5, 7)]:
            system = random_system(dice, n, many)
            for paper in (changed_paper(dice, system, 20), random_sums_paper(dice, n, 12)):
                of_words = share_of_sums(paper.words, 2 ** n)
                of_squares = share_of_sums(paper.squares, 2 ** (n * n))
                of_products, of_draws = share_of_products(paper), share_of_draws(system, paper)
                self.assert_exactly(share_of_many_products(paper), of_products)
                wanted = (of_words, of_words, of_squares, of_squares, of_products, of_products, of_draws)
                self.assert_refused(system, paper, wanted)

    def test_papers_of_twelve_unknowns(self):
        dice = dice_for("exact 12")
        for n, many in [(6, 5), (9, 6), (11, 0), (12, 5), (12, 7)]:
            system = random_system(dice, n, many)
            paper = changed_paper(dice, system, 20)
            of_words = share_of_sums(paper.words, 2 ** n)
            of_squares = share_of_sums(paper.squares, 2 ** (n * n))
            of_products, of_draws = share_of_many_products(paper), share_of_draws(system, paper)
            wanted = (of_words, of_words, of_squares, of_squares, of_products, of_products, of_draws)
            self.assert_refused(system, paper, wanted)

    def test_the_changed_square_of_an_equation(self):
        dice = dice_for("changed equation")
        for n in (2, 5, 12):
            system = random_system(dice, n, 3)
            square, right = system.drawn((0, 1, 0))
            zero = ((0,) * n,) * n
            for squares in ((square,), tuple(sorted({zero, square})), (zero,)):
                for word in (random_word(dice, n), (0,) * n):
                    paper = SumsPaper(word, outer(word, word), squares=squares)
                    self.assert_exactly(refused_by_kind(system, paper)[6], share_of_draws(system, paper))
                    self.assert_exactly(refused_by_kind(system, paper)[4], share_of_many_products(paper))

    def test_choices_that_draw_no_square(self):
        dice = dice_for("no square")
        for n in (1, 2, 3, 12):
            pairs, singles, right = random_equation(dice, n)
            like, unlike = (pairs, singles, right), (pairs, singles, 1 - right)
            nothing, wrong = ((), (), 0), ((), (), 1)
            rest = random_equation(dice, n)
            for equations in [
                [nothing], [wrong], [like, like], [like, unlike], [like, rest, like], [like, rest, unlike],
                [nothing, like, nothing], [wrong, like], [like, wrong, wrong], [rest, like, unlike, rest, like],
            ]:
                system = System(n, equations)
                for many in (0, 4, 9):
                    paper = changed_paper(dice, system, many)
                    self.assert_exactly(refused_by_kind(system, paper)[6], share_of_draws(system, paper))

    def test_forty_equations_that_are_sums_of_few(self):
        dice = dice_for("forty")
        for n in (1, 2, 3, 12):
            for few in (1, 2, 4):
                system = random_system(dice, n, few)
                more = System(n, system.equations * (40 // few))
                for k in range(120):
                    i, j = dice.sample(range(len(more)), 2) if k % 3 else (k % few, few + k % (40 - few))
                    more = row_added(more, i, j) if i != j and j >= few else more
                for paper in (changed_paper(dice, system, 12), random_sums_paper(dice, n, 6)):
                    self.assert_exactly(refused_by_kind(more, paper), refused_by_kind(system, paper))

    def test_a_system_without_equations(self):
        dice = dice_for("none")
        for n in (1, 2, 3, 7, 12):
            for paper in (random_sums_paper(dice, n, 20), paper_of((1,) * n)):
                self.assert_exactly(refused_by_kind(System(n, []), paper)[6], Share(0, 1))

    def test_example(self):
        self.assertEqual(NO_SOLUTION.solutions(), ())
        self.assert_exactly(refused_share(NO_SOLUTION, paper_of((1, 1))), FOURTEENTH)

    def test_wrong_papers(self):
        values = [None, True, False, 0, 1, "", (), [], (0, 1), nested(paper_of((1, 1)), 5), *OBJECTS[:8]]
        dice = dice_for("wrong")
        for n in (2, 4, 12):
            system = random_system(dice, n, 2)
            papers = [paper_of((1,) * size) for size in range(1, 13) if size != n] + [random_table_paper(dice, 3)]
            for paper in values + papers + [Judge(system, paper_of((1,) * n))]:
                for function in (refused_by_kind, refused_share):
                    self.assert_raises(InvalidPaper, {"part": "size", "place": 0}, function, system, paper)


class NearlyTest(Case):
    def test_by_the_formula(self):
        dice = dice_for("nearly")
        for n in range(1, 13):
            papers = [random_sums_paper(dice, n, 20), random_sums_paper(dice, n, 3), paper_of(random_word(dice, n))]
            for paper in papers:
                d, e = Share(len(paper.words), 2 ** n), Share(len(paper.squares), 2 ** (n * n))
                self.assert_exactly(nearly_share(paper), (Share(10, 1) * d + Share(12, 1) * e) * Share(1, 7))

    def test_examples(self):
        self.assert_exactly(nearly_share(SumsPaper((1,), ((1,),), words=((0,),))), Share(5, 7))
        self.assert_exactly(nearly_share(SumsPaper((0,), ((1,),), squares=(((0,),),))), Share(6, 7))
        paper = SumsPaper((0, 1), ((1, 0), (0, 0)), words=((0, 1), (1, 1)), squares=(((1, 0), (0, 1)),))
        self.assert_exactly(nearly_share(paper), Share(23, 28))

    def test_no_sums_papers(self):
        papers = [random_table_paper(dice_for("tables"), n) for n in (1, 2, 3)] + [written(paper_of((1, 0)))]
        values = [None, True, False, 0, 1, "", "01", (), [], (0, 1), ((1,), ((1,),)), nested(1, 10), *OBJECTS[:9]]
        for value in [*papers, *values, [paper_of((1,))], (paper_of((1,)),), Judge(System(1, []), paper_of((1,)))]:
            self.assert_raises(InvalidPaper, {"part": "paper", "place": 0}, nearly_share, value)


class BoundTest(Case):
    def test_all_numbers(self):
        wanted = Share(1, 1)
        for many in range(31):
            self.assert_exactly(passing_bound(many), wanted)
            wanted = wanted * Share(13, 14)
        self.assert_exactly((passing_bound(0), passing_bound(2)), (Share(1, 1), Share(169, 196)))

    def test_wrong_numbers(self):
        for many in [-1, 31, 32, -30, 2 ** 70, *NO_INTEGERS]:
            self.assert_raises(InvalidNumber, {"value": many}, passing_bound, many)


class SentencesTest(Case):
    def assert_at_least(self, share, bound):
        self.assert_exactly(share.is_below(bound), False)

    def test_papers_without_changes(self):
        dice = dice_for("rank")
        for n in list(range(1, 13)) * 3:
            system = random_system(dice, n, dice.randrange(9))
            word = random_word(dice, n)
            low = outer(random_word(dice, n), random_word(dice, n))
            for square in (outer(word, word), plus(outer(word, word), low), random_matrix(dice, n)):
                rank = rank_of(plus(square, outer(word, word)))
                of_products = Share(2 ** rank - 1, 2 ** (rank + 1))
                squares = [drawn_from(n, [equation], (1,)) for equation in system.equations]
                fits = all(inner(square, drawn) == right for drawn, right in squares)
                wanted = (Share(0, 1),) * 4 + (of_products,) * 2 + (Share(0, 1) if fits else Share(1, 2),)
                paper = SumsPaper(word, square)
                self.assert_exactly(refused_by_kind(system, paper), wanted)
                self.assert_exactly(refused_share(system, paper), mean(wanted))

    def test_papers_of_words(self):
        dice = dice_for("papers of words")
        for n in range(1, 13):
            for many in (0, 1, 2, 5, 40):
                system = random_system(dice, n, many)
                for word in [random_word(dice, n), (0,) * n, *system.solutions()[:2]]:
                    wanted = Share(0, 1) if word in system else FOURTEENTH
                    self.assert_exactly(refused_share(system, paper_of(word)), wanted)

    def test_no_paper_of_a_system_without_solution_is_refused_for_less(self):
        dice = dice_for("no less")
        bits = list(product((0, 1), repeat=2))
        for system in systems_without_solution(dice, 1, 4):
            for f, g in product(bits, bits):
                self.assert_at_least(refused_share(system, TablePaper(1, f, g)), FOURTEENTH)
        for n in (2, 3, 5):
            for system in systems_without_solution(dice, n, 5):
                papers = [random_sums_paper(dice, n, 2), random_sums_paper(dice, n, 20), paper_of(random_word(dice, n))]
                for _ in range(10):
                    word = random_word(dice, n)
                    papers.append(SumsPaper(word, outer(word, word), squares=(random_matrix(dice, n),)))
                    papers.append(SumsPaper(word, random_matrix(dice, n), words=(random_word(dice, n),)))
                    papers = papers + ([random_table_paper(dice, n)] if n < 4 else [])
                for paper in papers:
                    self.assert_at_least(refused_share(system, paper), FOURTEENTH)

    def test_papers_nearly_of_a_solution(self):
        dice = dice_for("nearly of a solution")
        found = 0
        for n in range(1, 13):
            system = random_system(dice, n, 3)
            for word in system.solutions()[:3]:
                for many in (1, 4, 20):
                    changes = random_sums_paper(dice, n, many)
                    paper = SumsPaper(word, outer(word, word), words=changes.words, squares=changes.squares)
                    self.assert_at_least(nearly_share(paper), refused_share(system, paper))
                    found += 1
        self.assertGreater(found, 40)

    def test_row_added_changes_no_share(self):
        dice = dice_for("row_added")
        for n in (1, 2, 3, 4, 8, 12):
            system = random_system(dice, n, 6)
            papers = [random_sums_paper(dice, n, 8), changed_paper(dice, system, 16), paper_of(random_word(dice, n))]
            for paper in papers + ([random_table_paper(dice, n)] if n < 4 else []):
                i, j = dice.sample(range(6), 2)
                self.assert_exactly(refused_by_kind(row_added(system, i, j), paper), refused_by_kind(system, paper))

    def test_many_throws(self):
        dice = dice_for("many throws")
        for n in (1, 2, 4):
            for system in systems_without_solution(dice, n, 3):
                for paper in (paper_of(random_word(dice, n)), random_sums_paper(dice, n, 3)):
                    passing = Share(1, 1)
                    for many in range(31):
                        self.assert_at_least(passing_bound(many), passing)
                        passing = passing * (Share(1, 1) - refused_share(system, paper))


if __name__ == "__main__":
    unittest.main()
