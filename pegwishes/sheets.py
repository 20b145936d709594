"""Sheets: figures with their numbers, wishes and style rules."""

from pegwishes.errors import NoFigure
from pegwishes.fracs import NOUGHT, plus
from pegwishes.paths import is_within

AXES = {"tray": ("x", "y"), "peg": ("x", "y"), "string": (), "hoop": ("r",)}


class Sheet:
    """A sheet; it never changes, each deed makes another one."""

    def __init__(self):
        self._figures = ()
        self._values = ()
        self._wishes = ()
        self._styles = ()

    def figures(self):
        """The figures, as they stand."""
        return list(self._figures)

    def numbers(self):
        """The triples (path, axis, fraction), as figures stand."""
        spots = _spots(self._figures)
        return [(path, axis, value) for (path, axis), value in zip(spots, self._values)]

    def kind(self, path):
        """The word of the figure at a path."""
        for figure in self._figures:
            if figure[1] == path:
                return figure[0]
        raise NoFigure(path)

    def place(self, path):
        """The place of a tray or a peg."""
        if self.kind(path) not in ("tray", "peg"):
            raise NoFigure(path)
        sums = {"x": NOUGHT, "y": NOUGHT}
        for held, axis, value in self.numbers():
            if held == path or is_within(path, held):
                sums[axis] = plus(sums[axis], value)
        return (sums["x"], sums["y"])

    def wishes(self):
        """The pairs (name, wish), as they stand."""
        return list(self._wishes)

    def styles(self):
        """The style rules, as they stand."""
        return list(self._styles)

    def __len__(self):
        return len(self._figures)

    def __eq__(self, other):
        if not isinstance(other, Sheet):
            return False
        if self._figures != other._figures or self._values != other._values:
            return False
        return self._wishes == other._wishes and self._styles == other._styles

    def __repr__(self):
        return f"Sheet({len(self._figures)})"


def _spots(figures):
    """The pair (path, axis) of each number of figures."""
    return [(figure[1], axis) for figure in figures for axis in AXES[figure[0]]]


def sheet_of(figures, values, wishes, styles):
    """The sheet of these figures, fractions as figures stand, pairs (name, wish) and rules."""
    sheet = Sheet()
    sheet._figures = tuple(figures)
    sheet._values = tuple(values)
    sheet._wishes = tuple(wishes)
    sheet._styles = tuple(styles)
    return sheet


def values_of(sheet):
    """The fractions of a sheet, as its numbers stand."""
    return [value for _, _, value in sheet.numbers()]


def kind_or_none(sheet, thing):
    """The word of the figure whose path a thing is, None where there is none."""
    for figure in sheet.figures():
        if figure[1] == thing:
            return figure[0]
    return None


def figure_at(sheet, path):
    """The figure at a path that is there."""
    return [figure for figure in sheet.figures() if figure[1] == path][0]
