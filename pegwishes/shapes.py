"""Shapes: what a figure has of places and reach, told by its pegs and numbers."""

from pegwishes.sheets import figure_at, kind_or_none


def shape_of(sheet, path):
    """("peg", place), ("string", place, place) or ("hoop", place, r) of a figure that is no tray."""
    kind = kind_or_none(sheet, path)
    if kind == "peg":
        return ("peg", sheet.place(path))
    if kind == "string":
        _, _, one, other = figure_at(sheet, path)
        return ("string", sheet.place(one), sheet.place(other))
    _, _, peg = figure_at(sheet, path)
    return ("hoop", sheet.place(peg), _reach_of(sheet, path))


def _reach_of(sheet, path):
    """The r of a hoop."""
    return [value for held, _, value in sheet.numbers() if held == path][0]
