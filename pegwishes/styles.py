"""Style rules, and how a figure is drawn by them."""

from pegwishes.errors import NoFigure
from pegwishes.paths import is_name, is_within
from pegwishes.sheets import kind_or_none
from pegwishes.whole import is_number

INKS = {"peg": "o", "string": "s", "hoop": "c"}
HOWS = ("kind", "in", "at")
KEYS = ("ink", "layer", "shown")
SHOWN = ("yes", "no")
# An at goes ahead of any tray, of which a figure is in two at most.
AT = 9


def style_of(sheet, path):
    """The triple (ink, layer, shown) of a peg, a string or a hoop."""
    kind = kind_or_none(sheet, path)
    if kind not in INKS:
        raise NoFigure(path)
    ink = _value_of(sheet, path, "ink", INKS[kind])
    return (ink, _value_of(sheet, path, "layer", 0), _value_of(sheet, path, "shown", "yes"))


def bad_spot(sheet, rule):
    """The first place in a rule whose thing is not so, None in a rule of the sheet."""
    if len(rule) != 4:
        return 0
    how, what, key, value = rule
    if how not in HOWS:
        return 0
    if not _is_what(sheet, how, what):
        return 1
    if key not in KEYS:
        return 2
    if not _is_value(key, value):
        return 3
    return None


def is_ink(thing):
    """Whether a thing is one letter a to z."""
    return is_name(thing) and len(thing) == 1


def _is_what(sheet, how, what):
    """Whether a thing is what a rule may be for."""
    if how == "kind":
        return what in ("peg", "string", "hoop")
    kind = kind_or_none(sheet, what)
    if how == "in":
        return kind == "tray"
    return kind in INKS


def _is_value(key, value):
    """Whether a thing is a value of a key."""
    if key == "ink":
        return is_ink(value)
    if key == "layer":
        return is_number(value) and 0 <= value <= 9
    return value in SHOWN


def _value_of(sheet, path, key, without):
    """The value of a key that goes ahead of others, or the one without any rule."""
    told = without
    best = 0
    kind = kind_or_none(sheet, path)
    for how, what, named, value in sheet.styles():
        weight = _weight(how, what, path, kind)
        # Of rules with the same weight, the one further behind goes ahead.
        if named == key and weight > 0 and weight >= best:
            told = value
            best = weight
    return told


def _weight(how, what, path, kind):
    """How far ahead a rule goes for a figure, 0 where it is not for it."""
    if how == "at":
        return AT if what == path else 0
    if how == "in":
        # A tray within another one has more NAMEs, so it goes ahead.
        return 1 + len(what.split(".")) if is_within(path, what) else 0
    return 1 if what == kind else 0
