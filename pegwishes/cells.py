"""Cells: what a window of a sheet shows."""

from math import lcm
from pegwishes.firm import held_by
from pegwishes.fracs import floor_of, frac, minus, plus
from pegwishes.rules import HIGH, WIDE
from pegwishes.sheets import figure_at
from pegwishes.strokes import strokes_of

EMPTY = "."


def marks(stroke, cell):
    """Whether a stroke marks a cell."""
    if stroke[0] == "peg":
        return _cell_of(stroke[3]) == tuple(cell)
    if stroke[0] == "string":
        return _string_marks(stroke, cell)
    return _hoop_marks(stroke, cell)


def cells(sheet, *, left=0, low=0, wide=WIDE, high=HIGH):
    """The rows of signs of a window of a sheet, from the top one on."""
    return cells_of(strokes_of(sheet), left=left, low=low, wide=wide, high=high)


def cells_of(strokes, *, left=0, low=0, wide=WIDE, high=HIGH):
    """The rows of signs of a window of strokes, from the top one on."""
    inks = {}
    for stroke in strokes:
        first, last = _corners(stroke)
        for x in range(max(left, first[0]), min(left + wide, last[0] + 1)):
            for y in range(max(low, first[1]), min(low + high, last[1] + 1)):
                if marks(stroke, (x, y)):
                    inks[(x, y)] = stroke[2]
    rows = []
    for y in range(low + high - 1, low - 1, -1):
        rows.append("".join([inks.get((x, y), EMPTY) for x in range(left, left + wide)]))
    return rows


def at_cell(sheet, cell):
    """The paths of strokes that mark a cell, the last one first."""
    return [stroke[1] for stroke in strokes_of(sheet)[::-1] if marks(stroke, cell)]


def led_by(sheet, cell):
    """The pairs (path, names) of strokes that mark a cell, with the wishes that hold them."""
    return [(path, _holders(sheet, path)) for path in at_cell(sheet, cell)]


def _holders(sheet, path):
    """The names of wishes that hold a figure's place, or places, or its r."""
    figure = figure_at(sheet, path)
    parts = [*figure[2:]]
    if figure[0] != "string":
        parts.append(path)
    held = {name: True for part in parts for name in held_by(sheet, part)}
    return [name for name, _ in sheet.wishes() if name in held]


def _cell_of(place):
    """The cell of a place."""
    return (floor_of(place[0]), floor_of(place[1]))


def _corners(stroke):
    """The lowest and the highest cell between which a stroke has all that it marks."""
    kind, _, _, place, *more = stroke
    if kind == "peg":
        return (_cell_of(place), _cell_of(place))
    if kind == "string":
        one = _cell_of(place)
        other = _cell_of(more[0])
        return ((min(one[0], other[0]), min(one[1], other[1])), (max(one[0], other[0]), max(one[1], other[1])))
    r = frac(abs(more[0][0]), more[0][1])
    low = _cell_of((minus(place[0], r), minus(place[1], r)))
    # A hoop that ends just at a cell's left or lower edge marks the cell ahead of it, too.
    return ((low[0] - 1, low[1] - 1), _cell_of((plus(place[0], r), plus(place[1], r))))


def _whole(values):
    """So many that all fractions so many times are whole, and these."""
    many = 1
    for value in values:
        many = lcm(many, value[1])
    return (many, [top * (many // bottom) for top, bottom in values])


def _string_marks(stroke, cell):
    """Whether a string has a place in a cell."""
    _, _, _, start, end = stroke
    many, (x, y, to_x, to_y) = _whole([*start, *end])
    ends = [_span(x, to_x - x, cell[0] * many, many), _span(y, to_y - y, cell[1] * many, many)]
    if None in ends:
        return False
    lows = [(0, 1, 0)] + [low for low, _ in ends]
    tops = [(1, 1, 0)] + [top for _, top in ends]
    return all([_is_up_to(low, top) for low in lows for top in tops])


def _span(start, run, low, many):
    """The two ends of the shares of a run that lead from low to less than many more.

    An end is a triple: top, bottom, and 0 where it belongs to them, 1 or -1 where only what is
    above or below it does. None where no share leads there.
    """
    if run == 0:
        return ((0, 1, 0), (1, 1, 0)) if low <= start < low + many else None
    if run > 0:
        return ((low - start, run, 0), (low + many - start, run, -1))
    return ((start - low - many, -run, 1), (start - low, -run, 0))


def _is_up_to(low, top):
    """Whether there is a share from one end up to the other one."""
    first = low[0] * top[1]
    second = top[0] * low[1]
    return first < second or (first == second and low[2] == 0 and top[2] == 0)


def _hoop_marks(stroke, cell):
    """Whether one corner of a cell is not farther from a hoop's place than r, and one is."""
    _, _, _, place, r = stroke
    many, (x, y, reach) = _whole([*place, r])
    corners = [(left, low) for left in (cell[0], cell[0] + 1) for low in (cell[1], cell[1] + 1)]
    near = [_square(left * many - x, low * many - y) <= reach * reach for left, low in corners]
    return True in near and False in near


def _square(x, y):
    """The square of how far x and y lead."""
    return x * x + y * y
