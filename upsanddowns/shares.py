"""Shares: fractions of two integers in lowest terms."""

from math import gcd

from upsanddowns.amounts import is_int
from upsanddowns.errors import BadShare
from upsanddowns.forms import is_row


class Share:
    """A fraction in lowest terms, its whole above 0. It never changes."""

    def __init__(self, part, whole=1):
        if not is_int(part):
            raise BadShare("part")
        if not is_int(whole) or whole == 0:
            raise BadShare("whole")
        divisor = gcd(part, whole) if whole > 0 else -gcd(part, whole)
        self.part = part // divisor
        self.whole = whole // divisor

    @staticmethod
    def of(part, whole):
        """The fraction of part and whole."""
        return Share(part, whole)

    def __eq__(self, other):
        if isinstance(other, Share):
            return self.part == other.part and self.whole == other.whole
        return is_int(other) and self.whole == 1 and self.part == other

    def __str__(self):
        return f"{self.part}/{self.whole}"

    def __neg__(self):
        return Share(-self.part, self.whole)

    def __add__(self, other):
        if isinstance(other, Share):
            return Share(self.part * other.whole + other.part * self.whole, self.whole * other.whole)
        if is_int(other):
            return Share(self.part + other * self.whole, self.whole)
        return NotImplemented

    def __radd__(self, other):
        if is_int(other):
            return Share(other * self.whole + self.part, self.whole)
        return NotImplemented

    def __sub__(self, other):
        if isinstance(other, Share):
            return Share(self.part * other.whole - other.part * self.whole, self.whole * other.whole)
        if is_int(other):
            return Share(self.part - other * self.whole, self.whole)
        return NotImplemented

    def __rsub__(self, other):
        if is_int(other):
            return Share(other * self.whole - self.part, self.whole)
        return NotImplemented

    def __mul__(self, other):
        if isinstance(other, Share):
            return Share(self.part * other.part, self.whole * other.whole)
        if is_int(other):
            return Share(self.part * other, self.whole)
        return NotImplemented

    def __rmul__(self, other):
        if is_int(other):
            return Share(other * self.part, self.whole)
        return NotImplemented

    def over(self, other):
        """This share divided by the other one, a Share or an integer."""
        part, whole = parts_of(other)
        if part == 0:
            raise BadShare("other")
        return Share(self.part * whole, self.whole * part)

    def at_least(self, other):
        """True if this share is not below the other one, a Share or an integer."""
        part, whole = parts_of(other)
        return self.part * whole >= part * self.whole

    def is_nought(self):
        """True if it is 0."""
        return self.part == 0


def parts_of(other):
    """The part and the whole of a Share or an integer."""
    if isinstance(other, Share):
        return other.part, other.whole
    if not is_int(other):
        raise BadShare("other")
    return other, 1


def total_of(shares):
    """The sum of a row of Shares and integers."""
    if not is_row(shares) or not all([isinstance(one, Share) or is_int(one) for one in shares]):
        raise BadShare("shares")
    found = Share(0)
    for one in shares:
        found = found + one
    return found
