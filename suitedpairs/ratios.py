"""Exact quotients of two integers of any size."""

from math import gcd

from suitedpairs.errors import Wrong
from suitedpairs.kinds import is_integer

PART_DIGITS = 50
PART = 10 ** 50


class Ratio:
    """The quotient of two integers, in lowest terms, the bottom positive."""

    def __init__(self, top, bottom):
        if not is_integer(top):
            raise Wrong(0)
        if not is_integer(bottom) or bottom == 0:
            raise Wrong(1)
        common = gcd(top, bottom) if bottom > 0 else -gcd(top, bottom)
        self._top = top // common
        self._bottom = bottom // common

    def __add__(self, other):
        return Ratio(self._top * other._bottom + other._top * self._bottom, self._bottom * other._bottom)

    def __sub__(self, other):
        return Ratio(self._top * other._bottom - other._top * self._bottom, self._bottom * other._bottom)

    def __mul__(self, other):
        return Ratio(self._top * other._top, self._bottom * other._bottom)

    def __eq__(self, other):
        return isinstance(other, Ratio) and self._top == other._top and self._bottom == other._bottom

    def __bool__(self):
        return bool(self._top)

    def __repr__(self):
        return f"Ratio({_digits(self._top)}, {_digits(self._bottom)})"

    @property
    def top(self):
        """The upper one of the lowest terms."""
        return self._top

    @property
    def bottom(self):
        """The lower one of the lowest terms, which is positive."""
        return self._bottom

    def less(self, other):
        """Whether it is less than another Ratio."""
        return self._top * other._bottom < other._top * self._bottom


def added(ratios):
    """The sum of a list of Ratios."""
    found = Ratio(0, 1)
    for ratio in ratios:
        found = found + ratio
    return found


def _digits(number):
    """An integer as Python writes it."""
    # In parts, since Python refuses to write an integer of some thousand digits at once.
    parts = []
    rest = abs(number)
    while rest >= PART:
        rest, part = divmod(rest, PART)
        parts.append(str(part).zfill(PART_DIGITS))
    parts.append(str(rest))
    if number < 0:
        parts.append("-")
    return "".join(parts[::-1])
