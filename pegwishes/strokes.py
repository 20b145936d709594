"""Strokes: what is drawn of a sheet, and its text."""

from pegwishes.errors import BadRow
from pegwishes.fracs import frac_or_none, frac_text
from pegwishes.paths import is_path
from pegwishes.shapes import shape_of
from pegwishes.styles import is_ink, style_of

# How many fractions belong to a stroke.
COUNTS = {"peg": 2, "string": 4, "hoop": 3}


def strokes(sheet):
    """The strokes of all figures shown, by layers, then as they stand."""
    return strokes_of(sheet)


def strokes_of(sheet):
    """The same, under a name that is free where strokes are handed in."""
    layers = [[] for _ in range(10)]
    for figure in sheet.figures():
        path = figure[1]
        if figure[0] == "tray":
            continue
        ink, layer, shown = style_of(sheet, path)
        if shown == "yes":
            kind, *spots = shape_of(sheet, path)
            layers[layer].append((kind, path, ink, *spots))
    return [stroke for each in layers for stroke in each]


def strokes_text(strokes):
    """The text of strokes, a row for each."""
    return "\n".join([_row_of(stroke) for stroke in strokes])


def strokes_in(text):
    """The strokes whose text it is."""
    if text == "":
        return []
    told = []
    for at, row in enumerate(text.split("\n")):
        stroke = _stroke_in(row)
        if stroke is None:
            raise BadRow(at)
        told.append(stroke)
    return told


def _row_of(stroke):
    """The row of a stroke."""
    kind, path, ink, place, *more = stroke
    values = [*place]
    if kind == "string":
        values.extend(more[0])
    if kind == "hoop":
        values.append(more[0])
    return " ".join([kind, path, ink] + [frac_text(value) for value in values])


def _stroke_in(row):
    """The stroke whose row it is, None where there is none."""
    kind, *words = row.split(" ")
    if kind not in COUNTS or len(words) != COUNTS[kind] + 2:
        return None
    path, ink, *texts = words
    values = [frac_or_none(word) for word in texts]
    if not is_path(path) or not is_ink(ink) or None in values:
        return None
    x, y, *more = values
    if kind == "string":
        return (kind, path, ink, (x, y), (more[0], more[1]))
    return (kind, path, ink, (x, y), *more)
