"""Which numbers and which wishes hang together."""

from pegwishes.errors import NoFigure
from pegwishes.fracs import NOUGHT
from pegwishes.rows import rows_by, rows_of, shares_of
from pegwishes.sheets import figure_at, kind_or_none


def hangs_of(sheet, path):
    """The pairs (path, axis) of numbers that hang on what a figure's place, or r, is made up of."""
    made_up = [shares_of(sheet, named, axis) for named, axis in _made_of(sheet, path)]
    rows = [_places(shares) for shares, _ in rows_by(sheet)]
    return _named(sheet, _hanging(rows, _places_of_all(made_up)))


def hangs_by(sheet, wish):
    """The pairs (path, axis) of numbers that, were a wish there, would hang on a number in its rows."""
    lines = [shares for shares, _ in rows_of(sheet, wish)]
    rows = [_places(shares) for shares, _ in rows_by(sheet)] + [_places(line) for line in lines]
    return _named(sheet, _hanging(rows, _places_of_all(lines)))


def knots(sheet):
    """The names of wishes, those in one list that hang together."""
    spots = [(name, _places_of_all([shares for shares, _ in rows_of(sheet, wish)])) for name, wish in sheet.wishes()]
    rows = [places for _, places in spots]
    told = {}
    lists = []
    for name, places in spots:
        if name in told:
            continue
        reached = _hanging(rows, places)
        names = [other for other, row in spots if any([at in reached for at in row])]
        told.update({one: True for one in names})
        lists.append(names)
    return lists


def _made_of(sheet, path):
    """The pairs (path, axis) whose sums are a figure's place, or places, or its r."""
    kind = kind_or_none(sheet, path)
    if kind is None:
        raise NoFigure(path)
    if kind == "hoop":
        return [(path, "r")]
    ends = [path]
    if kind == "string":
        ends = list(figure_at(sheet, path)[2:])
    return [(end, axis) for end in ends for axis in ("x", "y")]


def _places(shares):
    """The places of shares that are not 0."""
    return [at for at, share in enumerate(shares) if share != NOUGHT]


def _places_of_all(lines):
    """The places at which any of some lines is not 0."""
    return [at for line in lines for at in _places(line)]


def _hanging(rows, starts):
    """The places that hang on the starts, by rows that are given as places, as a dict of True."""
    reached = {at: True for at in starts}
    many = -1
    while many != len(reached):
        many = len(reached)
        for row in rows:
            if any([at in reached for at in row]):
                reached.update({at: True for at in row})
    return reached


def _named(sheet, reached):
    """The pairs (path, axis) of the numbers at places, as they stand."""
    return [(path, axis) for at, (path, axis, _) in enumerate(sheet.numbers()) if at in reached]
