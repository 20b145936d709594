"""Roots left as such: triples (a, b, under), a and b times the root of under."""

from pegwishes.errors import BadText, NoRoot, TooGreat
from pegwishes.fracs import NOUGHT, frac, frac_or_none, frac_text, is_frac, minus, plus, sign_of, times
from pegwishes.rules import ROOTS
from pegwishes.whole import is_number, number_in, number_text


def is_root(thing):
    """Whether a thing is a root, of an under not above ROOTS."""
    if not isinstance(thing, tuple) or len(thing) != 3:
        return False
    a, b, under = thing
    if not is_frac(a) or not is_frac(b) or not is_number(under):
        return False
    if under < 1 or under > ROOTS:
        return False
    return (under == 1) == (b == NOUGHT) and _parted(under) == (1, under)


def _parted(many):
    """The pair (side, under): many is side squared times under, which no square above 1 divides."""
    if many == 0:
        return (0, 1)
    side = 1
    under = many
    step = 2
    while step * step <= under:
        while under % (step * step) == 0:
            under = under // (step * step)
            side = side * step
        step += 1
    return (side, under)


def rooted(a, b, many):
    """The root that is a and b times the root of many."""
    if many > ROOTS:
        raise TooGreat(many)
    side, under = _parted(many)
    share = times(b, frac(side))
    if under == 1:
        return (plus(a, share), NOUGHT, 1)
    if share == NOUGHT:
        return (a, NOUGHT, 1)
    return (a, share, under)


def root_of(square):
    """The root whose square a fraction is."""
    if sign_of(square) < 0:
        raise NoRoot(square)
    top, bottom = square
    return rooted(NOUGHT, frac(1, bottom), top * bottom)


def root_sign(root):
    """1 above 0, 0 at 0, -1 below 0."""
    a, b, under = root
    return _sign(a, b, under)


def _sign(a, b, under):
    """The sign of a and b times the root of under."""
    first = sign_of(a)
    second = sign_of(b)
    if first == 0:
        return second
    if second == 0 or first == second:
        return first
    # Of contrary signs, the part with the greater square tells.
    return first * sign_of(minus(times(a, a), _square(b, under)))


def _square(b, under):
    """The square of b times the root of under."""
    return times(times(b, b), frac(under))


def is_less(one, other):
    """Whether a root is below another one, whatever their unders."""
    a = minus(one[0], other[0])
    c = minus(NOUGHT, other[1])
    return _sign_of_three(a, one[1], one[2], c, other[2]) < 0


def _sign_of_three(a, b, under, c, deeper):
    """The sign of a, b times the root of under, and c times that of deeper, summed up."""
    first = _sign(a, b, under)
    second = sign_of(c)
    if first == 0:
        return second
    if second == 0 or first == second:
        return first
    # The squares of both parts are compared, so that nothing is estimated.
    alone = minus(plus(times(a, a), _square(b, under)), _square(c, deeper))
    mixed = times(frac(2), times(a, b))
    return first * _sign(alone, mixed, under)


def root_text(root):
    """The text of a root, such as 1/2 -3/2r5."""
    a, b, under = root
    if b == NOUGHT:
        return frac_text(a)
    text = frac_text(b) + "r" + number_text(under)
    if a == NOUGHT:
        return text
    return frac_text(a) + " " + text


def root_in(text):
    """The root whose text it is, of an under not above ROOTS."""
    head, blank, tail = text.rpartition(" ")
    share, mark, under = tail.partition("r")
    if mark == "":
        root = (frac_or_none(text), NOUGHT, 1)
    else:
        a = frac_or_none(head) if blank == " " else NOUGHT
        root = (a, frac_or_none(share), number_in(under))
    # Parts of 0 can be read, but are never written beside others.
    if not is_root(root) or root_text(root) != text:
        raise BadText(text)
    return root
