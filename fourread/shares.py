"""Shares: fractions in lowest terms."""

from math import gcd

from fourread.basics import is_integer
from fourread.errors import InvalidNumber


class Share:
    """The fraction over / under, in lowest terms, with under above 0."""

    def __init__(self, over, under):
        for number in (over, under):
            if not is_integer(number):
                raise InvalidNumber(number)
        if under == 0:
            raise InvalidNumber(under)
        divisor = gcd(over, under)
        if under < 0:
            divisor = -divisor
        self.over = over // divisor
        self.under = under // divisor

    @classmethod
    def whole(cls, number):
        """The share that is this integer."""
        return cls(number, 1)

    def __add__(self, other):
        return Share(self.over * other.under + other.over * self.under, self.under * other.under)

    def __sub__(self, other):
        return Share(self.over * other.under - other.over * self.under, self.under * other.under)

    def __mul__(self, other):
        return Share(self.over * other.over, self.under * other.under)

    def __eq__(self, other):
        return isinstance(other, Share) and self.over == other.over and self.under == other.under

    def __repr__(self):
        return f"Share({self.over}, {self.under})"

    def is_below(self, other):
        """Whether this share is less than the other one."""
        return self.over * other.under < other.over * self.under
