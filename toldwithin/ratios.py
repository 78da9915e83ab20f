"""Exact fractions."""

from math import gcd

from toldwithin.errors import NoRatio
from toldwithin.kinds import is_figure, is_integer


class Ratio:
    """An exact fraction in lowest terms, with a bottom of at least 1."""

    def __init__(self, top, bottom=1):
        if not is_integer(top):
            raise NoRatio("top")
        if not is_integer(bottom):
            raise NoRatio("bottom")
        if bottom == 0:
            raise NoRatio("zero")
        # The shared divisor takes the sign of the bottom, so that the bottom loses it.
        shared = gcd(top, bottom) if bottom > 0 else -gcd(top, bottom)
        self.top = top // shared
        self.bottom = bottom // shared

    def __add__(self, other):
        if not is_number(other):
            return NotImplemented
        right = as_ratio(other)
        return Ratio(self.top * right.bottom + right.top * self.bottom, self.bottom * right.bottom)

    def __radd__(self, other):
        return self + other

    def __sub__(self, other):
        if not is_number(other):
            return NotImplemented
        right = as_ratio(other)
        return Ratio(self.top * right.bottom - right.top * self.bottom, self.bottom * right.bottom)

    def __rsub__(self, other):
        return -self + other

    def __mul__(self, other):
        # What is no number may still know how to be multiplied by one: a question does.
        if not is_number(other):
            return NotImplemented
        right = as_ratio(other)
        return Ratio(self.top * right.top, self.bottom * right.bottom)

    def __rmul__(self, other):
        return self * other

    def __neg__(self):
        return Ratio(-self.top, self.bottom)

    def __abs__(self):
        return Ratio(abs(self.top), self.bottom)

    def over(self, number):
        """The exact quotient."""
        right = as_ratio(number)
        return Ratio(self.top * right.bottom, self.bottom * right.top)

    def __eq__(self, other):
        if isinstance(other, Ratio):
            return self.top == other.top and self.bottom == other.bottom
        return is_integer(other) and self.bottom == 1 and self.top == other

    def __lt__(self, other):
        if not is_number(other):
            return NotImplemented
        return sign_of_difference(self, other) < 0

    def __le__(self, other):
        if not is_number(other):
            return NotImplemented
        return sign_of_difference(self, other) <= 0

    def __gt__(self, other):
        if not is_number(other):
            return NotImplemented
        return sign_of_difference(self, other) > 0

    def __ge__(self, other):
        if not is_number(other):
            return NotImplemented
        return sign_of_difference(self, other) >= 0

    def text(self):
        if self.bottom == 1:
            return str(self.top)
        return f"{self.top}/{self.bottom}"

    @staticmethod
    def read(text):
        """The ratio whose text this is."""
        if not isinstance(text, str):
            raise NoRatio("text")
        top, slash, bottom = text.partition("/")
        if not is_figure(top.removeprefix("-")) or not (slash == "" or is_figure(bottom)):
            raise NoRatio("text")
        if bottom == "0":
            raise NoRatio("text")
        found = Ratio(int(top), int(bottom) if bottom != "" else 1)
        # Only lowest terms are a text, and -0 and a bottom of 1 are none.
        if found.text() != text:
            raise NoRatio("text")
        return found


def is_number(found):
    return isinstance(found, Ratio) or is_integer(found)


def is_reach(found):
    """Whether this is a number of at least 0."""
    return is_number(found) and found >= 0


def as_ratio(number):
    return number if isinstance(number, Ratio) else Ratio(number)


def sign_of_difference(one, other):
    """An integer that is below, at or above 0 as the first number is to the second one."""
    left = as_ratio(one)
    right = as_ratio(other)
    return left.top * right.bottom - right.top * left.bottom
