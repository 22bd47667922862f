"""Exact fractions."""

from math import gcd

from seenshares.errors import BadShare, NoShare
from seenshares.kinds import is_integer


class Share:
    """An exact fraction, kept in lowest terms with a bottom of at least 1."""

    def __init__(self, top, bottom=1):
        if not is_integer(top):
            raise BadShare("top")
        if not is_integer(bottom) or bottom == 0:
            raise BadShare("bottom")
        common = gcd(top, bottom)
        if bottom < 0:
            common = -common
        self.top = top // common
        self.bottom = bottom // common

    def __add__(self, other):
        if not is_number(other):
            return NotImplemented
        top, bottom = parts(other)
        return Share(self.top * bottom + top * self.bottom, self.bottom * bottom)

    def __radd__(self, other):
        if not is_number(other):
            return NotImplemented
        return self + other

    def __sub__(self, other):
        if not is_number(other):
            return NotImplemented
        top, bottom = parts(other)
        return Share(self.top * bottom - top * self.bottom, self.bottom * bottom)

    def __rsub__(self, other):
        if not is_number(other):
            return NotImplemented
        return -self + other

    def __mul__(self, other):
        if not is_number(other):
            return NotImplemented
        top, bottom = parts(other)
        return Share(self.top * top, self.bottom * bottom)

    def __rmul__(self, other):
        if not is_number(other):
            return NotImplemented
        return self * other

    def __floordiv__(self, other):
        if not is_number(other):
            return NotImplemented
        return self.over(other).floor()

    def __rfloordiv__(self, other):
        if not is_number(other):
            return NotImplemented
        return Share(other).over(self).floor()

    def __neg__(self):
        return Share(-self.top, self.bottom)

    def __abs__(self):
        return Share(abs(self.top), self.bottom)

    def __eq__(self, other):
        if not is_number(other):
            return False
        top, bottom = parts(other)
        return self.top == top and self.bottom == bottom

    def __ne__(self, other):
        return not self == other

    def __lt__(self, other):
        if not is_number(other):
            return NotImplemented
        top, bottom = parts(other)
        return self.top * bottom < top * self.bottom

    def __le__(self, other):
        if not is_number(other):
            return NotImplemented
        top, bottom = parts(other)
        return self.top * bottom <= top * self.bottom

    def __gt__(self, other):
        if not is_number(other):
            return NotImplemented
        top, bottom = parts(other)
        return self.top * bottom > top * self.bottom

    def __ge__(self, other):
        if not is_number(other):
            return NotImplemented
        top, bottom = parts(other)
        return self.top * bottom >= top * self.bottom

    def __str__(self):
        if self.bottom == 1:
            return str(self.top)
        return f"{self.top}/{self.bottom}"

    def over(self, other):
        """The exact quotient of this share and a number."""
        top, bottom = parts(other)
        if top == 0:
            raise NoShare()
        return Share(self.top * bottom, self.bottom * top)

    def floor(self):
        """The greatest integer that is at most this share."""
        return self.top // self.bottom


def is_number(x):
    """Tell whether x is a share or an integer."""
    return isinstance(x, Share) or is_integer(x)


def parts(number):
    """The top and the bottom, in lowest terms, of a share or an integer."""
    if isinstance(number, Share):
        return number.top, number.bottom
    return number, 1


def greatest(numbers):
    """The greatest of some shares or integers, or None if there are none."""
    found = None
    for number in numbers:
        if found is None or number > found:
            found = number
    return found


def smallest(numbers):
    """The smallest of some shares or integers, or None if there are none."""
    found = None
    for number in numbers:
        if found is None or number < found:
            found = number
    return found
