"""Integers: what counts as one, products of them, and rows of fractions with one denominator."""

from math import gcd

from upsanddowns.errors import BadNumber


def is_int(one):
    """True for an integer; True and False themselves are none."""
    return isinstance(one, int) and not isinstance(one, bool)


def check_number(name, one, least):
    """The integer itself, if it is one and not below least; least None lets every integer pass."""
    if not is_int(one):
        raise BadNumber(name)
    if least is not None and one < least:
        raise BadNumber(name)
    return one


def product_of(row):
    """The product of the integers of a row."""
    value = 1
    for one in row:
        value = value * one
    return value


def plain(row, den):
    """The scaled reading that stands for the row divided by den."""
    check_number("den", den, 1)
    shared = den
    for one in row:
        shared = gcd(shared, one)
    return tuple([one // shared for one in row]), den // shared


def plain_by(row, den):
    """The scaled reading that stands for the row divided by den, which is unlike 0 and may be below 0."""
    if den < 0:
        return plain([-one for one in row], -den)
    return plain(row, den)
