"""What is firm, what may sway, and which wishes hold it."""

from pegwishes.errors import NoFigure
from pegwishes.fracs import NOUGHT
from pegwishes.rows import rows_by, rows_of, shares_of
from pegwishes.sheets import kind_or_none, values_of
from pegwishes.solving import answered, rank_beyond
from pegwishes.sums import are_fracs, mixed, summed

AXES = {"tray": ("x", "y"), "peg": ("x", "y"), "hoop": ("r",)}


def ways(sheet, path):
    """0 where a place, or an r, is firm, 2 where a place may be anywhere, else 1."""
    return _ways(sheet, _asked(sheet, path), sheet.wishes())


def firm_paper(sheet, path):
    """The lists of weights that sum rows up to the place, or r; None where it is not firm."""
    papers = []
    for crossed in _crossed(sheet, path):
        weights = answered(crossed, _row_count(sheet))[0]
        if weights is None:
            return None
        papers.append(weights)
    return tuple(papers)


def sway_of(sheet, path):
    """Changes of all numbers that keep all rows, but not the place, or r; None where it is firm."""
    for crossed in _crossed(sheet, path):
        # Where no weights sum rows up to a place, what shows this is such changes.
        changes = answered(crossed, _row_count(sheet))[1]
        if changes is not None:
            return changes
    return None


def shows_firm(sheet, path, thing):
    """Whether a thing is a paper that the place, or r, is firm."""
    asked = _asked(sheet, path)
    if not isinstance(thing, tuple) or len(thing) != len(asked):
        return False
    lines = [shares for shares, _ in rows_by(sheet)]
    for shares, weights in zip(asked, thing):
        if not are_fracs(weights, len(lines)):
            return False
        if mixed(lines, weights, len(shares)) != list(shares):
            return False
    return True


def shows_sway(sheet, path, thing):
    """Whether a thing is changes that keep all rows, but not the place, or r."""
    asked = _asked(sheet, path)
    if not are_fracs(thing, len(values_of(sheet))):
        return False
    for shares, _ in rows_by(sheet):
        if summed(shares, thing) != NOUGHT:
            return False
    return any([summed(shares, thing) != NOUGHT for shares in asked])


def held_by(sheet, path):
    """The names of wishes without which alone the ways would be more."""
    asked = _asked(sheet, path)
    many = _ways(sheet, asked, sheet.wishes())
    names = []
    for pair in sheet.wishes():
        others = [other for other in sheet.wishes() if other != pair]
        if _ways(sheet, asked, others) > many:
            names.append(pair[0])
    return names


def _asked(sheet, path):
    """The shares that numbers have in the x and the y of a place, or in an r."""
    kind = kind_or_none(sheet, path)
    if kind not in AXES:
        raise NoFigure(path)
    return [shares_of(sheet, path, axis) for axis in AXES[kind]]


def _ways(sheet, asked, pairs):
    """How many ways these wishes leave to what is asked for."""
    lines = [shares for _, wish in pairs for shares, _ in rows_of(sheet, wish)]
    return rank_beyond(lines, asked, len(values_of(sheet)))


def _row_count(sheet):
    """How many rows the wishes of a sheet have."""
    return len(rows_by(sheet))


def _crossed(sheet, path):
    """For x and y, or r, rows that weights keep where they sum the sheet's rows up to it."""
    lines = [shares for shares, _ in rows_by(sheet)]
    crossed = []
    for shares in _asked(sheet, path):
        crossed.append([(tuple([line[at] for line in lines]), share) for at, share in enumerate(shares)])
    return crossed
