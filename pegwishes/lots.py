"""Lots: wishes of a sheet with which a wish cannot be kept."""

from pegwishes.fracs import NOUGHT
from pegwishes.rows import keeps, rows_of
from pegwishes.sheets import values_of
from pegwishes.solving import answered, clashing
from pegwishes.sums import are_fracs, mixed, summed


def lot_of(sheet, wish):
    """The names of wishes, each needed, with which a wish clashes; None where it clashes with none."""
    lot = sheet.wishes()
    if not _clash(sheet, lot, wish):
        return None
    for pair in sheet.wishes():
        fewer = _without(lot, pair)
        if _clash(sheet, fewer, wish):
            lot = fewer
    return [name for name, _ in lot]


def lot_paper(sheet, wish):
    """The pair (weights, others) that shows a lot; None where there is none."""
    names = lot_of(sheet, wish)
    if names is None:
        return None
    lot = _pairs_of(sheet, names)
    wide = len(values_of(sheet))
    weights = answered(_rows(sheet, lot, wish), wide)[1]
    others = [answered(_rows(sheet, _without(lot, pair), wish), wide)[0] for pair in lot]
    # The sheet keeps all its own wishes, so its numbers do without the new one.
    others.append(values_of(sheet))
    return (weights, others)


def shows_lot(sheet, wish, names, thing):
    """Whether names are a lot of a wish, and a thing is a paper that shows it."""
    if not _are_names(sheet, names):
        return False
    if not isinstance(thing, tuple) or len(thing) != 2:
        return False
    lot = _pairs_of(sheet, names)
    weights, others = thing
    return _shows_clash(sheet, lot, wish, weights) and _shows_need(sheet, lot, wish, others)


def _clash(sheet, lot, wish):
    """Whether some of the wishes of a sheet clash with a wish."""
    return clashing(_rows(sheet, lot, wish), len(values_of(sheet)))


def _rows(sheet, lot, wish):
    """The rows of pairs (name, wish), then those of a wish."""
    return [row for _, each in lot for row in rows_of(sheet, each)] + rows_of(sheet, wish)


def _without(lot, pair):
    """The pairs (name, wish) without one of them."""
    return [other for other in lot if other != pair]


def _pairs_of(sheet, names):
    """The wishes of these names with their names, as they stand."""
    return [pair for pair in sheet.wishes() if pair[0] in names]


def _are_names(sheet, names):
    """Whether names are unlike ones of the sheet's wishes, as they stand."""
    if not isinstance(names, (list, tuple)):
        return False
    return [name for name, _ in _pairs_of(sheet, names)] == list(names)


def _shows_clash(sheet, lot, wish, weights):
    """Whether weights sum the rows up to shares of 0 alone and a right that is not 0."""
    rows = _rows(sheet, lot, wish)
    if not are_fracs(weights, len(rows)):
        return False
    wide = len(values_of(sheet))
    shares = mixed([shares for shares, _ in rows], weights, wide)
    right = summed(weights, [right for _, right in rows])
    return all([share == NOUGHT for share in shares]) and right != NOUGHT


def _shows_need(sheet, lot, wish, others):
    """Whether others has, for each wish of a lot and for the wish, numbers that keep the rest."""
    if not isinstance(others, list) or len(others) != len(lot) + 1:
        return False
    wide = len(values_of(sheet))
    if not all([are_fracs(numbers, wide) for numbers in others]):
        return False
    for pair, numbers in zip(lot, others):
        if not keeps(_rows(sheet, _without(lot, pair), wish), numbers):
            return False
    return all([keeps(rows_of(sheet, each), others[-1]) for _, each in lot])
