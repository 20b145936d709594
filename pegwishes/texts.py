"""Texts of sheets and of deeds."""

from pegwishes.deeds import aim_of, done, drawn
from pegwishes.errors import BadPath, BadRow, BadStyle, BadText, BadWish, Known, NoFigure
from pegwishes.fracs import frac_text
from pegwishes.rows import holds
from pegwishes.sheets import AXES, Sheet, values_of
from pegwishes.whole import is_number, number_text
from pegwishes.wishes import PARTS
from pegwishes.words import things_in

# The signs of what stands behind the word of a deed; a wish's own are those of wishes.py.
SIGNS = {
    "tray": "PNN",
    "peg": "PNN",
    "string": "PPP",
    "hoop": "PPN",
    "remove": "P",
    "stamp": "PP",
    "unwish": "A",
    "move": "PNN",
    "style": "WPKV",
    "unstyle": "I",
}


def sheet_text(sheet):
    """The rows of a sheet: figures, then wishes, then style rules."""
    deeds = [figure + _values_at(sheet, figure[1]) for figure in sheet.figures()]
    deeds.extend([("wish", name, wish) for name, wish in sheet.wishes()])
    deeds.extend([("style", *rule) for rule in sheet.styles()])
    return "\n".join([deed_text(deed) for deed in deeds])


def sheet_in(text):
    """The sheet whose text it is."""
    sheet = Sheet()
    if text == "":
        return sheet
    for at, row in enumerate(text.split("\n")):
        sheet = _with_row(sheet, row)
        if sheet is None:
            raise BadRow(at)
    return sheet


def deed_text(deed):
    """The text of a deed."""
    things = deed
    if deed[0] == "wish":
        _, name, wish = deed
        things = ("wish", name, *wish)
    return " ".join([_word_of(thing) for thing in things])


def deed_in(text):
    """The deed whose text it is."""
    deed = deed_or_none(text)
    if deed is None:
        raise BadText(text)
    return deed


def deed_or_none(text):
    """The deed whose text it is, None where there is none."""
    word, *words = text.split(" ")
    if word == "wish":
        return _wish_deed_in(words)
    if word not in SIGNS:
        return None
    things = things_in(SIGNS[word], words)
    return None if things is None else (word, *things)


def _wish_deed_in(words):
    """The deed of a wish, of the words behind its first one."""
    if len(words) < 2 or words[1] not in PARTS:
        return None
    name, word, *parts = words
    things = things_in("A" + PARTS[word], [name, *parts])
    return None if things is None else ("wish", things[0], (word, *things[1:]))


def _word_of(thing):
    """The text of a word, a number or a fraction."""
    if isinstance(thing, str):
        return thing
    if is_number(thing):
        return number_text(thing)
    return frac_text(thing)


def _values_at(sheet, path):
    """The numbers of the figure at a path, as a tuple."""
    return tuple([value for held, _, value in sheet.numbers() if held == path])


def _with_row(sheet, row):
    """The sheet and what a row tells, None where the row is not so written or cannot stand there."""
    deed = deed_or_none(row)
    if deed is None or not _is_in_order(sheet, deed[0]):
        return None
    try:
        if deed[0] == "wish":
            return _with_wish(sheet, deed)
        return done(sheet, deed)
    except (BadPath, BadStyle, BadWish, Known, NoFigure):
        return None


def _is_in_order(sheet, word):
    """Whether a row of this word may stand behind those of a sheet."""
    if word == "style":
        return True
    if word == "wish":
        return sheet.styles() == []
    return word in AXES and sheet.wishes() == [] and sheet.styles() == []


def _with_wish(sheet, deed):
    """The sheet and a wish that its numbers keep, None where they do not."""
    # A wish that is kept draws nothing, so no nearest numbers are asked for.
    if not holds(sheet, aim_of(sheet, deed)):
        return None
    return drawn(sheet, deed, values_of(sheet))
