"""Rows: what a wish asks of the numbers of a sheet."""

from pegwishes.fracs import NOUGHT, minus, plus
from pegwishes.paths import is_within
from pegwishes.sheets import figure_at, values_of
from pegwishes.sums import summed

ONE = (1, 1)
LESS = (-1, 1)
TWICE_LESS = (-2, 1)


def rows_of(sheet, wish):
    """The rows of a wish, x ahead of y."""
    terms_of = TERMS[wish[0]]
    return [_row(sheet, terms, right) for terms, right in terms_of(sheet, wish)]


def rows_by(sheet):
    """The rows of all wishes of a sheet, one behind the other."""
    return [row for _, wish in sheet.wishes() for row in rows_of(sheet, wish)]


def keeps(rows, numbers):
    """Whether numbers keep all rows."""
    for shares, right in rows:
        if len(shares) != len(numbers) or summed(shares, numbers) != right:
            return False
    return True


def holds(sheet, wish):
    """Whether the numbers of a sheet keep the rows of a wish."""
    return keeps(rows_of(sheet, wish), values_of(sheet))


def shares_of(sheet, path, axis):
    """The shares that numbers have in the x or y of a place, or in the r of a hoop."""
    return _shares(sheet, [(ONE, path, axis)])


def _row(sheet, terms, right):
    """The row whose sum is that of terms: triples (many, path, axis)."""
    return (_shares(sheet, terms), right)


def _shares(sheet, terms):
    """The shares of all numbers of a sheet in a sum of terms."""
    shares = []
    for path, axis, _ in sheet.numbers():
        share = NOUGHT
        for many, named, along in terms:
            if along == axis and (named == path or is_within(named, path)):
                share = plus(share, many)
        shares.append(share)
    return tuple(shares)


def _both(parts, x, y):
    """The terms of x, then those of y, of places so many times, with their rights."""
    across = [(many, path, "x") for many, path in parts]
    up = [(many, path, "y") for many, path in parts]
    return [(across, x), (up, y)]


def _pin(sheet, wish):
    _, path, x, y = wish
    return _both([(ONE, path)], x, y)


def _level(sheet, wish):
    _, p, q = wish
    return [([(ONE, p, "y"), (LESS, q, "y")], NOUGHT)]


def _plumb(sheet, wish):
    _, p, q = wish
    return [([(ONE, p, "x"), (LESS, q, "x")], NOUGHT)]


def _off(sheet, wish):
    _, p, q, x, y = wish
    return _both([(ONE, q), (LESS, p)], x, y)


def _part(sheet, wish):
    _, m, p, q, n = wish
    return _both([(ONE, m), (minus(n, ONE), p), (minus(NOUGHT, n), q)], NOUGHT, NOUGHT)


def _like(sheet, wish):
    _, p, q, r, s = wish
    return _both([(ONE, s), (LESS, r), (LESS, q), (ONE, p)], NOUGHT, NOUGHT)


def _turn(sheet, wish):
    _, p, q, r, s = wish
    across = [(ONE, s, "x"), (LESS, r, "x"), (ONE, q, "y"), (LESS, p, "y")]
    up = [(ONE, s, "y"), (LESS, r, "y"), (LESS, q, "x"), (ONE, p, "x")]
    return [(across, NOUGHT), (up, NOUGHT)]


def _mirror(sheet, wish):
    _, p, q, r = wish
    across = [(ONE, p, "x"), (ONE, q, "x"), (TWICE_LESS, r, "x")]
    up = [(ONE, p, "y"), (LESS, q, "y")]
    return [(across, NOUGHT), (up, NOUGHT)]


def _reach(sheet, wish):
    _, hoop, n = wish
    return [([(ONE, hoop, "r")], n)]


def _big(sheet, wish):
    _, hoop, other, n = wish
    return [([(ONE, hoop, "r"), (minus(NOUGHT, n), other, "r")], NOUGHT)]


def _side(sheet, wish):
    _, hoop, word, path = wish
    peg = figure_at(sheet, hoop)[2]
    (across, x), (up, y) = _both([(ONE, path), (LESS, peg)], NOUGHT, NOUGHT)
    reach = (LESS if word in ("east", "north") else ONE, hoop, "r")
    if word in ("east", "west"):
        across = across + [reach]
    else:
        up = up + [reach]
    return [(across, x), (up, y)]


TERMS = {
    "pin": _pin,
    "level": _level,
    "plumb": _plumb,
    "off": _off,
    "part": _part,
    "like": _like,
    "turn": _turn,
    "mirror": _mirror,
    "reach": _reach,
    "big": _big,
    "side": _side,
}
