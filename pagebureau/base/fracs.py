"""Fractions of two integers."""

from math import gcd

from pagebureau.base.errors import BadFrac, ZeroBottom
from pagebureau.base.integers import is_plain_integer, read_integer, written

# A text tells at most so many digits of a numerator or a denominator.
_DIGITS = 60


def is_number(thing):
    """Whether the thing is an integer or a Frac."""
    return isinstance(thing, Frac) or is_plain_integer(thing)


def top_of(number):
    """The numerator of a number."""
    return number.top if isinstance(number, Frac) else number


def bottom_of(number):
    """The denominator of a number."""
    return number.bottom if isinstance(number, Frac) else 1


class Frac:
    """A fraction in lowest terms, with a denominator above 0."""

    def __init__(self, top=0, bottom=1):
        if bottom == 0:
            raise ZeroBottom()
        common = gcd(top, bottom) if bottom > 0 else -gcd(top, bottom)
        self.top = top // common
        self.bottom = bottom // common

    @classmethod
    def read(cls, text):
        over, line, under = text.partition("/")
        top = read_integer(over, _DIGITS)
        bottom = read_integer(under, _DIGITS) if line else 1
        if top is None or bottom is None or bottom == 0:
            raise BadFrac(text)
        frac = cls(top, bottom)
        if frac.text() != text:
            raise BadFrac(text)
        return frac

    @staticmethod
    def added(numbers):
        total = Frac()
        for number in numbers:
            total = total + number
        return total

    def text(self):
        if self.bottom == 1:
            return written(self.top)
        return f"{written(self.top)}/{written(self.bottom)}"

    def over(self, other):
        return Frac(self.top * bottom_of(other), self.bottom * top_of(other))

    def __add__(self, other):
        if not is_number(other):
            return NotImplemented
        top = self.top * bottom_of(other) + top_of(other) * self.bottom
        return Frac(top, self.bottom * bottom_of(other))

    def __radd__(self, other):
        return self + other

    def __sub__(self, other):
        if not is_number(other):
            return NotImplemented
        top = self.top * bottom_of(other) - top_of(other) * self.bottom
        return Frac(top, self.bottom * bottom_of(other))

    def __rsub__(self, other):
        return -self + other

    def __mul__(self, other):
        if not is_number(other):
            return NotImplemented
        return Frac(self.top * top_of(other), self.bottom * bottom_of(other))

    def __rmul__(self, other):
        return self * other

    def __neg__(self):
        return Frac(-self.top, self.bottom)

    def __abs__(self):
        return Frac(abs(self.top), self.bottom)

    def __lt__(self, other):
        if not is_number(other):
            return NotImplemented
        return self.top * bottom_of(other) < top_of(other) * self.bottom

    def __le__(self, other):
        if not is_number(other):
            return NotImplemented
        return self.top * bottom_of(other) <= top_of(other) * self.bottom

    def __gt__(self, other):
        if not is_number(other):
            return NotImplemented
        return self.top * bottom_of(other) > top_of(other) * self.bottom

    def __ge__(self, other):
        if not is_number(other):
            return NotImplemented
        return self.top * bottom_of(other) >= top_of(other) * self.bottom

    def __eq__(self, other):
        if not is_number(other):
            return False
        return self.top == top_of(other) and self.bottom == bottom_of(other)
