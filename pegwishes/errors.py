"""The refusals: each its own class, straight under one of Python's own."""


class BadText(ValueError):
    """A text that is not the text of what was asked for."""

    def __init__(self, text):
        self.text = text


class BadRow(ValueError):
    """A row of a text that is not so written, or cannot stand there."""

    def __init__(self, row):
        self.row = row


class BadPath(ValueError):
    """A path that is none, or whose tray is not there."""

    def __init__(self, path):
        self.path = path


class BadWish(ValueError):
    """A wish with a part that is not so."""

    def __init__(self, part):
        self.part = part


class BadStyle(ValueError):
    """A style rule with a spot that is not so."""

    def __init__(self, spot):
        self.spot = spot


class NoRoot(ValueError):
    """A square below 0."""

    def __init__(self, square):
        self.square = square


class ByNought(ZeroDivisionError):
    """A bottom or a divisor of 0."""


class TooGreat(OverflowError):
    """A number above its bound."""

    def __init__(self, many):
        self.many = many


class NoFigure(KeyError):
    """A path that no fitting figure has."""

    def __init__(self, path):
        self.path = path


class NoWish(KeyError):
    """A name that no wish has."""

    def __init__(self, name):
        self.name = name


class NoSheet(KeyError):
    """A name that no sheet of a board has."""

    def __init__(self, name):
        self.name = name


class NoStyle(LookupError):
    """A spot at which no style rule stands."""

    def __init__(self, spot):
        self.spot = spot


class NoDeed(LookupError):
    """More deeds than a board has."""

    def __init__(self, many):
        self.many = many


class Known(RuntimeError):
    """A name that is taken."""

    def __init__(self, name):
        self.name = name


class Clash(RuntimeError):
    """Wishes that cannot be kept together."""

    def __init__(self, lot):
        self.lot = lot


class Along(RuntimeError):
    """Two figures that have places in common without end."""
