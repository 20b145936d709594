"""Fractions: pairs (top, bottom), lowered, with a bottom above 0."""

from math import gcd
from pegwishes.errors import BadText, ByNought
from pegwishes.whole import is_number, number_in, number_text

NOUGHT = (0, 1)


def is_frac(thing):
    """Whether a thing is a fraction."""
    if not isinstance(thing, tuple) or len(thing) != 2:
        return False
    top, bottom = thing
    if not is_number(top) or not is_number(bottom):
        return False
    return bottom > 0 and gcd(top, bottom) == 1


def frac(top, bottom=1):
    """The fraction that is top over bottom."""
    if bottom == 0:
        raise ByNought()
    shared = gcd(top, bottom)
    if bottom < 0:
        shared = -shared
    return (top // shared, bottom // shared)


def plus(one, other):
    """One and other."""
    return frac(one[0] * other[1] + other[0] * one[1], one[1] * other[1])


def minus(one, other):
    """One less other."""
    return frac(one[0] * other[1] - other[0] * one[1], one[1] * other[1])


def times(one, other):
    """One times other."""
    return frac(one[0] * other[0], one[1] * other[1])


def over(one, other):
    """One over other."""
    return frac(one[0] * other[1], one[1] * other[0])


def sign_of(one):
    """1 above 0, 0 at 0, -1 below 0."""
    if one[0] > 0:
        return 1
    if one[0] < 0:
        return -1
    return 0


def floor_of(one):
    """The greatest number that is not above a fraction."""
    return one[0] // one[1]


def frac_text(one):
    """The text of a fraction, such as 3 or -3/4."""
    top, bottom = one
    if bottom == 1:
        return number_text(top)
    return number_text(top) + "/" + number_text(bottom)


def frac_in(text):
    """The fraction whose text it is."""
    one = frac_or_none(text)
    if one is None:
        raise BadText(text)
    return one


def frac_or_none(text):
    """The fraction whose text it is, None where there is none."""
    head, stroke, tail = text.partition("/")
    if stroke == "":
        top = number_in(head)
        return None if top is None else (top, 1)
    one = (number_in(head), number_in(tail))
    # A bottom of 1 is never written.
    if not is_frac(one) or one[1] == 1:
        return None
    return one
