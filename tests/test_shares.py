"""[8]: the module shares."""

import inspect
import unittest
from fractions import Fraction

from fourread import shares
from fourread.errors import InvalidNumber
from fourread.shares import Share
from tests.support import Case, NO_INTEGERS, NO_WORDS, OBJECTS

SMALL = [(over, under) for over in range(-7, 8) for under in range(-7, 8) if under]
GREAT = [(10 ** 59 + 7, 10 ** 59 - 9), (-(10 ** 59) - 1, 6 ** 70), (2 ** 190, -(2 ** 150)), (3 ** 100, 3 ** 98)]


class InterfaceTest(Case):
    def test_names(self):
        self.assertIs(vars(shares)["Share"], Share)
        self.assertEqual(Share.__module__, "fourread.shares")
        for name in ("__init__", "__add__", "__sub__", "__mul__", "__eq__", "__repr__", "is_below", "whole"):
            self.assertIn(name, vars(Share))
        self.assertEqual(list(inspect.signature(Share).parameters), ["over", "under"])
        self.assertEqual(list(inspect.signature(Share.whole).parameters), ["number"])
        self.assertEqual(list(inspect.signature(Share.is_below).parameters)[1:], ["other"])

    def test_arguments_by_name(self):
        self.assert_exactly(Share(under=4, over=6), Share(3, 2))
        self.assert_exactly(Share.whole(number=5), Share(5, 1))
        self.assert_exactly(Share(1, 3).is_below(other=Share(1, 2)), True)


class LowestTermsTest(Case):
    def test_small_and_great(self):
        for over, under in SMALL + GREAT:
            share, wanted = Share(over, under), Fraction(over, under)
            self.assert_exactly((share.over, share.under), (wanted.numerator, wanted.denominator))
            self.assert_exactly(repr(share), f"Share({wanted.numerator}, {wanted.denominator})")

    def test_examples(self):
        for over, under, wanted in [
            (1, 14, "Share(1, 14)"), (6, 4, "Share(3, 2)"), (-6, 4, "Share(-3, 2)"), (6, -4, "Share(-3, 2)"),
            (-6, -4, "Share(3, 2)"), (0, 5, "Share(0, 1)"), (0, -5, "Share(0, 1)"), (7, 7, "Share(1, 1)"),
            (8, -2, "Share(-4, 1)"), (-1, -1, "Share(1, 1)"),
        ]:
            self.assert_exactly(repr(Share(over, under)), wanted)
            self.assert_exactly(str(Share(over, under)), wanted)


class WrongNumbersTest(Case):
    def test_over_is_refused_first(self):
        for over in NO_INTEGERS:
            for under in [1, 0, -3, *NO_INTEGERS]:
                self.assert_raises(InvalidNumber, {"value": over}, Share, over, under)

    def test_under(self):
        for under in NO_INTEGERS:
            for over in (1, 0, -2, 10 ** 59):
                self.assert_raises(InvalidNumber, {"value": under}, Share, over, under)

    def test_under_that_is_0(self):
        for over in (1, 0, -1, 10 ** 59):
            with self.assertRaises(InvalidNumber) as caught:
                Share(over, 0)
            self.assert_exactly(caught.exception.value, 0)

    def test_both_are_wrong(self):
        self.assert_raises(InvalidNumber, {"value": True}, Share, True, 0)
        self.assert_raises(InvalidNumber, {"value": False}, Share, 0, False)
        self.assert_raises(InvalidNumber, {"value": "1"}, Share, "1", None)


class WholeTest(Case):
    def test_integers(self):
        for number in [0, 1, -1, 2, -17, 10 ** 59]:
            self.assert_exactly(Share.whole(number), Share(number, 1))
            self.assertIs(type(Share.whole(number)), Share)
            self.assert_exactly((Share.whole(number).over, Share.whole(number).under), (number, 1))

    def test_wrong_values(self):
        for value in NO_INTEGERS:
            self.assert_raises(InvalidNumber, {"value": value}, Share.whole, value)

    def test_called_off_a_share(self):
        self.assert_exactly(Share(1, 2).whole(3), Share(3, 1))


class OperatorsTest(Case):
    def test_sums_differences_products(self):
        for one in SMALL[::3] + GREAT:
            for other in SMALL + GREAT:
                self.assert_operators(one, other)

    def test_examples(self):
        self.assert_exactly(Share(1, 6) + Share(1, 3), Share(1, 2))
        self.assert_exactly(Share(1, 6) - Share(1, 2), Share(-1, 3))
        self.assert_exactly(Share(2, 3) * Share(-3, 4), Share(-1, 2))
        self.assert_exactly(Share(1, 2) - Share(1, 2), Share(0, 1))

    def test_shares_do_not_change(self):
        one, other = Share(1, 6), Share(-3, 4)
        for result in (one + other, one - other, one * other, one == other, one.is_below(other)):
            self.assertIsNotNone(result)
            self.assert_exactly((one, other), (Share(1, 6), Share(-3, 4)))

    def test_equal_and_below(self):
        for one in SMALL + GREAT:
            for other in SMALL + GREAT:
                share, beside = Share(*one), Share(*other)
                equal = Fraction(*one) == Fraction(*other)
                self.assert_exactly((share == beside, share != beside), (equal, not equal))
                self.assert_exactly(share.is_below(beside), Fraction(*one) < Fraction(*other))

    def test_neighbours_far_beyond_floats(self):
        near, nearer = Share(10 ** 59, 10 ** 59 + 1), Share(10 ** 59 + 1, 10 ** 59 + 2)
        self.assert_exactly((near == nearer, near.is_below(nearer), nearer.is_below(near)), (False, True, False))

    def test_no_share_is_equal_to_another_kind_of_value(self):
        for share in (Share(0, 1), Share(1, 1), Share(1, 2)):
            others = [value for value in OBJECTS if not isinstance(value, Share)]
            for value in [0, 1, 2, (1, 2), [1, 2], "Share(1, 2)", None, True, False, *NO_WORDS, *others]:
                if not isinstance(value, Share):
                    self.assert_exactly((share == value, share != value), (False, True))
                    self.assert_exactly((value == share, value != share), (False, True))

    def assert_operators(self, one, other):
        share, beside = Share(*one), Share(*other)
        for found, wanted in [
            (share + beside, Fraction(*one) + Fraction(*other)),
            (share - beside, Fraction(*one) - Fraction(*other)),
            (share * beside, Fraction(*one) * Fraction(*other)),
        ]:
            self.assertIs(type(found), Share)
            self.assert_exactly((found.over, found.under), (wanted.numerator, wanted.denominator))


if __name__ == "__main__":
    unittest.main()
