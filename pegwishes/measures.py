"""How far apart, how long, and where figures meet."""

from pegwishes.crossings import of_hoops, of_string_and_hoop, of_strings
from pegwishes.errors import NoFigure
from pegwishes.roots import is_less, root_of
from pegwishes.shapes import shape_of
from pegwishes.sheets import figure_at, kind_or_none
from pegwishes.vectors import square, way


def gap(sheet, one, other):
    """The root that the places of two trays or pegs are apart."""
    start = sheet.place(one)
    return root_of(square(way(start, sheet.place(other))))


def length(sheet, path):
    """The root that the pegs of a string are apart."""
    if kind_or_none(sheet, path) != "string":
        raise NoFigure(path)
    _, _, one, other = figure_at(sheet, path)
    return gap(sheet, one, other)


def meets(sheet, one, other):
    """The rising list of places that two unlike strings or hoops both have."""
    first = _shape(sheet, one)
    if other == one:
        raise NoFigure(other)
    return _rising(_shared(first, _shape(sheet, other)))


def _shape(sheet, path):
    """The shape of a string or a hoop."""
    if kind_or_none(sheet, path) not in ("string", "hoop"):
        raise NoFigure(path)
    return shape_of(sheet, path)


def _shared(first, second):
    """The places that two shapes both have."""
    if first[0] == "string" and second[0] == "string":
        return of_strings(first, second)
    if first[0] == "string":
        return of_string_and_hoop(first, second)
    if second[0] == "string":
        return of_string_and_hoop(second, first)
    return of_hoops(first, second)


def _rising(places):
    """One or two places by x, then by y."""
    if len(places) == 2 and _is_ahead(places[1], places[0]):
        return places[::-1]
    return places


def _is_ahead(one, other):
    """Whether a place has a lesser x, or the same x and a lesser y."""
    if one[0] == other[0]:
        return is_less(one[1], other[1])
    return is_less(one[0], other[0])
