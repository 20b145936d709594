"""Deeds: each makes another sheet of a sheet."""

from pegwishes.errors import BadPath, BadStyle, BadWish, Known, NoFigure, NoStyle, NoWish
from pegwishes.near import nearest
from pegwishes.paths import is_path, is_within, tray_of
from pegwishes.sheets import kind_or_none, sheet_of, values_of
from pegwishes.styles import bad_spot
from pegwishes.wishes import bad_part, paths_of


def done(sheet, deed):
    """The sheet behind a deed."""
    action = ACTIONS[deed[0]]
    return action(sheet, deed)


def _placed(sheet, deed):
    """A tray or a peg comes."""
    kind, path, x, y = deed
    _check_path(sheet, path)
    return _with_figure(sheet, (kind, path), [x, y])


def _strung(sheet, deed):
    """A string comes."""
    _, path, one, other = deed
    _check_path(sheet, path)
    _check_peg(sheet, one)
    _check_peg(sheet, other)
    if other == one:
        raise NoFigure(other)
    return _with_figure(sheet, ("string", path, one, other), [])


def _hooped(sheet, deed):
    """A hoop comes."""
    _, path, peg, r = deed
    _check_path(sheet, path)
    _check_peg(sheet, peg)
    return _with_figure(sheet, ("hoop", path, peg), [r])


def _removed(sheet, deed):
    """A figure goes, with all that cannot be without it."""
    gone = _gone_with(sheet, deed[1])
    figures = [figure for figure in sheet.figures() if figure[1] not in gone]
    values = [value for path, _, value in sheet.numbers() if path not in gone]
    wishes = [pair for pair in sheet.wishes() if not any([path in gone for path in paths_of(pair[1])])]
    styles = [rule for rule in sheet.styles() if rule[0] == "kind" or rule[1] not in gone]
    return sheet_of(figures, values, wishes, styles)


def _stamped(sheet, deed):
    """A tray comes that is like another one, with all within it."""
    _, tray, path = deed
    if kind_or_none(sheet, tray) != "tray":
        raise NoFigure(tray)
    names = _named_anew(sheet, tray, path)
    # What comes may not have too many NAMEs, nor may a tray come within itself.
    if is_within(path, tray) or not all([is_path(name) for name in names.values()]):
        raise BadPath(path)
    _check_path(sheet, path)
    coming = [figure for figure in sheet.figures() if figure[1] in names]
    figures = [(figure[0], *[names[part] for part in figure[1:]]) for figure in coming]
    values = [value for held, _, value in sheet.numbers() if held in names]
    return _changed(sheet, sheet.figures() + figures, values_of(sheet) + values)


def aim_of(sheet, deed):
    """The wish that the numbers behind a wish or a move are the nearest to keep."""
    if deed[0] == "move":
        _, path, x, y = deed
        if kind_or_none(sheet, path) not in ("tray", "peg"):
            raise NoFigure(path)
        return ("pin", path, x, y)
    _, name, wish = deed
    if name in _wish_names(sheet):
        raise Known(name)
    part = bad_part(sheet, wish)
    if part is not None:
        raise BadWish(part)
    return wish


def drawn(sheet, deed, values):
    """The sheet behind a wish or a move, where these are its numbers."""
    coming = [(deed[1], deed[2])] if deed[0] == "wish" else []
    return sheet_of(sheet.figures(), values, sheet.wishes() + coming, sheet.styles())


def _drawn_nearest(sheet, deed):
    """A wish comes, or a tray or a peg goes to a place; either draws the rest behind it."""
    return drawn(sheet, deed, nearest(sheet, aim_of(sheet, deed)))


def _unwished(sheet, deed):
    """A wish goes."""
    name = deed[1]
    if name not in _wish_names(sheet):
        raise NoWish(name)
    wishes = [pair for pair in sheet.wishes() if pair[0] != name]
    return sheet_of(sheet.figures(), values_of(sheet), wishes, sheet.styles())


def _styled(sheet, deed):
    """A style rule comes."""
    rule = tuple(deed[1:])
    spot = bad_spot(sheet, rule)
    if spot is not None:
        raise BadStyle(spot)
    return sheet_of(sheet.figures(), values_of(sheet), sheet.wishes(), sheet.styles() + [rule])


def _unstyled(sheet, deed):
    """A style rule goes."""
    spot = deed[1]
    styles = sheet.styles()
    if spot < 0 or spot >= len(styles):
        raise NoStyle(spot)
    return sheet_of(sheet.figures(), values_of(sheet), sheet.wishes(), styles[:spot] + styles[spot + 1:])


def _check_path(sheet, path):
    """Refuse a path at which no figure may come."""
    if not is_path(path):
        raise BadPath(path)
    tray = tray_of(path)
    if tray != "" and kind_or_none(sheet, tray) != "tray":
        raise BadPath(path)
    if kind_or_none(sheet, path) is not None:
        raise Known(path)


def _check_peg(sheet, path):
    """Refuse a path of what is no peg."""
    if kind_or_none(sheet, path) != "peg":
        raise NoFigure(path)


def _with_figure(sheet, figure, values):
    """The sheet with a figure behind all others."""
    return _changed(sheet, sheet.figures() + [figure], values_of(sheet) + values)


def _changed(sheet, figures, values):
    """The sheet with other figures and numbers, and with its wishes and rules."""
    return sheet_of(figures, values, sheet.wishes(), sheet.styles())


def _wish_names(sheet):
    """The names of all wishes of a sheet."""
    return [name for name, _ in sheet.wishes()]


def _gone_with(sheet, path):
    """The paths of a figure and of all that goes with it, as a dict of True."""
    sheet.kind(path)
    gone = {}
    # Figures stand behind what they are within or made of, so once through is enough.
    for figure in sheet.figures():
        if figure[1] == path or is_within(figure[1], path) or any([part in gone for part in figure[2:]]):
            gone[figure[1]] = True
    return gone


def _named_anew(sheet, tray, path):
    """The new paths of a tray and of what comes with it, by the old ones."""
    names = {}
    for figure in sheet.figures():
        held = figure[1]
        # Pegs stand ahead of their strings and hoops, so they are here already.
        if held == tray or (is_within(held, tray) and all([part in names for part in figure[2:]])):
            names[held] = path + held.removeprefix(tray)
    return names


ACTIONS = {
    "tray": _placed,
    "peg": _placed,
    "string": _strung,
    "hoop": _hooped,
    "remove": _removed,
    "stamp": _stamped,
    "wish": _drawn_nearest,
    "unwish": _unwished,
    "move": _drawn_nearest,
    "style": _styled,
    "unstyle": _unstyled,
}
