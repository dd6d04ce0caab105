"""[18]: the module colourings."""

import unittest
from itertools import combinations, product

from fourread import colourings
from fourread.colourings import colour_system, colour_word, colouring_of
from fourread.errors import InvalidNumber, InvalidTie, InvalidWord, TooMany
from fourread.shares import Share
from fourread.systems import System
from fourread.tables import Table
from fourread.words import all_words
from tests.support import (
    Case, NO_INTEGERS, NO_WORDS, OBJECTS, ONE, dice_for, equation_that, multiplied, nested, unknown,
)

VALUES = [True, False, None, "0", "", (), (0,), [], [1], Share(0, 1), Share(1, 1), Table(1, (0, 1))]


def all_ties(nodes):
    return list(combinations(range(nodes), 2))


def equations_of(nodes, ties, colours):
    """The equations of the system, by the document's words."""
    found = []
    if colours == 3:
        found = [equation_that(multiplied(unknown(2 * i), unknown(2 * i + 1)), 0) for i in range(nodes)]
    for i, j in ties:
        a, b, c, d = unknown(2 * i), unknown(2 * i + 1), unknown(2 * j), unknown(2 * j + 1)
        found.append(equation_that(multiplied(a ^ c ^ ONE, b ^ d ^ ONE), 0))
    return found


def wrong_ties():
    """Values that are no tie of four nodes, each for a reason of its own."""
    wrong = [
        None, True, False, 0, 1, "", "01", (), [], (0,), (0, 1, 2), [0, 1], ((0, 1),), ((0,), (1,)), (0, (1,)), (1, 0),
        (3, 2), (0, 0), (2, 2), (0, 4), (3, 4), (4, 5), (-1, 0), (-1, 3), (-2, -1), (0, 12), (0, 2 ** 70), (2, -1),
        ("0", "1"), ("a", "b"), nested((0, 1), 8), *OBJECTS,
    ]
    return wrong + [tie for value in VALUES for tie in ((0, value), (value, 1), (value, 2))]


class InterfaceTest(Case):
    def test_names(self):
        self.assert_interface(colourings, {
            "colour_system": ["nodes", "ties", "colours"], "colour_word": ["colouring"], "colouring_of": ["word"],
        })

    def test_arguments_by_name(self):
        self.assert_system(colour_system(colours=3, ties=[], nodes=1), 2, [(((0, 1),), (), 0)])
        self.assert_exactly(colour_word(colouring=(2, 1)), (1, 0, 0, 1))
        self.assert_exactly(colouring_of(word=(1, 0, 0, 1)), (2, 1))


class ColourSystemTest(Case):
    def test_all_ties_of_few_nodes(self):
        for nodes in (1, 2, 3, 4):
            every = all_ties(nodes)
            for many in range(len(every) + 1):
                for ties in combinations(every, many):
                    self.assert_equations(nodes, list(ties))

    def test_more_nodes(self):
        dice = dice_for("colourings")
        for nodes in (5, 6):
            every = all_ties(nodes)
            for ties in ([], every, every[::2], [tie for tie in every if dice.randrange(2)], every[-1:]):
                self.assert_equations(nodes, ties)

    def test_examples(self):
        tie = (((0, 1), (0, 3), (1, 2), (2, 3)), (0, 1, 2, 3), 1)
        self.assert_system(colour_system(2, [(0, 1)], 4), 4, [tie])
        self.assert_system(colour_system(2, [(0, 1)], 3), 4, [(((0, 1),), (), 0), (((2, 3),), (), 0), tie])
        other = (((2, 3), (2, 5), (3, 4), (4, 5)), (2, 3, 4, 5), 1)
        self.assert_system(colour_system(3, ((1, 2),), 4), 6, [other])
        self.assert_system(colour_system(1, (), 4), 2, [])
        self.assert_system(colour_system(6, [], 4), 12, [])

    def test_more_than_six_nodes(self):
        for nodes in range(7, 13):
            for colours in (3, 4):
                for ties in ([], [(0, 1)], all_ties(nodes)[:40]):
                    self.assert_raises(TooMany, {"what": "unknowns"}, colour_system, nodes, ties, colours)
                self.assert_raises(InvalidTie, {"place": 0}, colour_system, nodes, [(0, nodes)], colours)
                self.assert_raises(InvalidTie, {"place": 0}, colour_system, nodes, None, colours)
            for colours in (2, 5):
                self.assert_raises(InvalidNumber, {"value": colours}, colour_system, nodes, [(0, nodes - 1)], colours)

    def test_wrong_nodes_come_first(self):
        for nodes in [0, 13, -1, -6, 2 ** 70, *NO_INTEGERS]:
            for ties, colours in (([], 3), ([(0, 1)], 4), ([None], 3), (None, 5)):
                self.assert_raises(InvalidNumber, {"value": nodes}, colour_system, nodes, ties, colours)

    def test_then_wrong_ties(self):
        for wrong in wrong_ties():
            for ahead in ([], [(0, 1)], [(0, 1), (0, 2)], [(0, 1), (0, 2), (0, 3)]):
                for behind in ([], [(2, 3)], [wrong, None]):
                    ties = ahead + [wrong] + behind
                    for colours in (3, 4, 5):
                        self.assert_raises(InvalidTie, {"place": len(ahead)}, colour_system, 4, ties, colours)
                    self.assert_raises(InvalidTie, {"place": len(ahead)}, colour_system, 4, tuple(ties), 3)

    def test_ties_out_of_order(self):
        every = all_ties(4)
        for one, other in product(every, repeat=2):
            if other <= one:
                self.assert_raises(InvalidTie, {"place": 1}, colour_system, 4, [one, other], 3)
                self.assert_raises(InvalidTie, {"place": 1}, colour_system, 4, [one, other, None], 5)
                if one > (0, 1):
                    self.assert_raises(InvalidTie, {"place": 2}, colour_system, 4, ((0, 1), one, other), 4)

    def test_no_sequences(self):
        for value in [None, True, False, 0, 1, "", "01", *OBJECTS, System(2, [])]:
            self.assert_raises(InvalidTie, {"place": 0}, colour_system, 4, value, 3)

    def test_nodes_that_there_are_not(self):
        for nodes in range(1, 7):
            for wrong in ((0, nodes), (nodes, nodes + 1), (nodes - 1, nodes)):
                self.assert_raises(InvalidTie, {"place": 0}, colour_system, nodes, [wrong], 3)
                if nodes > 2:
                    self.assert_raises(InvalidTie, {"place": 1}, colour_system, nodes, [(0, nodes - 1), wrong], 4)

    def test_then_wrong_colours(self):
        for nodes, ties in ((1, []), (4, [(0, 1), (2, 3)]), (12, [])):
            for colours in [0, 1, 2, 5, 6, -3, -4, 2 ** 70, *NO_INTEGERS]:
                self.assert_raises(InvalidNumber, {"value": colours}, colour_system, nodes, ties, colours)

    def assert_equations(self, nodes, ties):
        before = list(ties)
        for colours in (3, 4):
            wanted = equations_of(nodes, ties, colours)
            self.assert_system(colour_system(nodes, ties, colours), 2 * nodes, wanted)
            self.assert_system(colour_system(nodes, tuple(ties), colours), 2 * nodes, wanted)
        self.assert_exactly(ties, before)


class ColourWordTest(Case):
    def test_there_and_back(self):
        for nodes in range(1, 7):
            colourings_of_all = product(range(4), repeat=nodes)
            self.assert_exactly([colour_word(colouring) for colouring in colourings_of_all], list(all_words(2 * nodes)))
            for word in all_words(2 * nodes):
                self.assert_exactly(colour_word(colouring_of(word)), word)

    def test_by_first_and_second_bits(self):
        for word in all_words(6):
            wanted = tuple(2 * word[2 * k] + word[2 * k + 1] for k in range(3))
            self.assert_exactly(colouring_of(word), wanted)

    def test_examples(self):
        self.assert_exactly(colour_word((0, 1, 2, 3)), (0, 0, 0, 1, 1, 0, 1, 1))
        self.assert_exactly(colouring_of((1, 1, 0, 1)), (3, 1))
        self.assert_exactly(colour_word((2,)), (1, 0))

    def test_wrong_colourings(self):
        ends = [4, 5, -1, -4, 2 ** 70, *VALUES, (0, 1)]
        wrong = [(), [], [0], [0, 1], None, True, 0, 3, "", "0", "012", (0,) * 7, (3,) * 12, ((0, 1),), nested(0, 9)]
        wrong = wrong + OBJECTS + [ahead + (end,) for end in ends for ahead in ((), (0,), (1,) * 5)]
        for value in wrong:
            self.assert_raises(InvalidWord, {"value": value}, colour_word, value)

    def test_wrong_words(self):
        for value in [*NO_WORDS, *[(1,) * length for length in (1, 3, 5, 7, 9, 11)], (0,), [0, 1], [0, 1, 1, 0]]:
            self.assert_raises(InvalidWord, {"value": value}, colouring_of, value)


class BoldTest(Case):
    def test_the_solutions_are_the_colourings(self):
        dice = dice_for("bold of colourings")
        for nodes in range(1, 6):
            every = all_ties(nodes)
            for ties in ([], every, every[::2], [tie for tie in every if dice.randrange(2)]):
                for colours in (3, 4):
                    found = product(range(colours), repeat=nodes)
                    fitting = [one for one in found if all(one[i] != one[j] for i, j in ties)]
                    wanted = tuple(colour_word(colouring) for colouring in fitting)
                    self.assert_exactly(colour_system(nodes, ties, colours).solutions(), wanted)

    def test_six_nodes_in_a_ring(self):
        ties = [(0, 1), (0, 5), (1, 2), (2, 3), (3, 4), (4, 5)]
        self.assertEqual(len(colour_system(6, ties, 3).solutions()), 2 ** 6 + 2)
        self.assertEqual(len(colour_system(6, ties, 4).solutions()), 3 ** 6 + 3)
        self.assert_exactly(colour_system(4, all_ties(4), 3).solutions(), ())
        self.assertEqual(len(colour_system(4, all_ties(4), 4).solutions()), 24)


if __name__ == "__main__":
    unittest.main()
