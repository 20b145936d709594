"""Stories: how a sheet came about from the bare one, with papers that show it."""

from pegwishes.cells import cells
from pegwishes.deeds import aim_of, done, drawn
from pegwishes.errors import BadPath, BadRow, BadStyle, BadWish, Clash, Known, NoFigure, NoStyle, NoWish, TooGreat
from pegwishes.fracs import is_frac
from pegwishes.lots import lot_paper, shows_lot
from pegwishes.near import near_paper, shows_near
from pegwishes.paths import is_name
from pegwishes.rules import HIGH, STEPS, WIDE
from pegwishes.sheets import Sheet, values_of
from pegwishes.texts import SIGNS, sheet_in, sheet_text
from pegwishes.whole import is_number

# The deeds behind which numbers are the nearest.
DRAWING = ("wish", "move")


def told_story(deeds):
    """The story of deeds done to the bare sheet."""
    if len(deeds) > STEPS:
        raise TooGreat(len(deeds))
    story = []
    sheet = Sheet()
    for deed in deeds:
        sheet, paper = _behind(sheet, deed)
        story.append((deed, sheet_text(sheet), paper))
    return story


def shows_story(thing):
    """Whether a thing is a story."""
    if not isinstance(thing, list):
        return False
    sheet = Sheet()
    for step in thing:
        sheet = _behind_step(sheet, step)
        if sheet is None:
            return False
    return True


def page(story, *, left=0, low=0, wide=WIDE, high=HIGH):
    """The cells of the sheet that a story ends with."""
    text = story[-1][1] if len(story) > 0 else ""
    return cells(sheet_in(text), left=left, low=low, wide=wide, high=high)


def _behind(sheet, deed):
    """The sheet behind a deed, or the same where it is refused with Clash, and the paper of it."""
    if deed[0] not in DRAWING:
        return (done(sheet, deed), ())
    wish = aim_of(sheet, deed)
    try:
        after = done(sheet, deed)
    except Clash as caught:
        return (sheet, (caught.lot, lot_paper(sheet, wish)))
    return (after, near_paper(sheet, wish))


def _behind_step(sheet, step):
    """The sheet behind a step, None where it is none that leads on from a sheet."""
    if not isinstance(step, tuple) or len(step) != 3:
        return None
    deed, text, paper = step
    if not _is_deed(deed) or not isinstance(text, str):
        return None
    try:
        after = _shown(sheet, deed, text, paper)
    except (BadPath, BadRow, BadStyle, BadWish, Known, NoFigure, NoStyle, NoWish):
        return None
    if after is None or sheet_text(after) != text:
        return None
    return after


def _shown(sheet, deed, text, paper):
    """The sheet behind a deed as text and paper show it, None where they do not."""
    if deed[0] not in DRAWING:
        return done(sheet, deed) if paper == () else None
    wish = aim_of(sheet, deed)
    # Weights are a list, and what shows a refusal is a pair, so one is never taken for the other.
    if not isinstance(paper, list):
        return sheet if _shows_clash(sheet, wish, paper) else None
    # The numbers are read, not sought: that they are the nearest is what the weights show.
    values = values_of(sheet_in(text))
    return drawn(sheet, deed, values) if shows_near(sheet, wish, values, paper) else None


def _shows_clash(sheet, wish, paper):
    """Whether a paper is a list of names and what shows that a wish clashes with these."""
    if not isinstance(paper, tuple) or len(paper) != 2:
        return False
    names, thing = paper
    return isinstance(names, list) and shows_lot(sheet, wish, names, thing)


def _is_deed(thing):
    """Whether a thing is written as a deed is; what its things are worth is asked where it is done."""
    if not isinstance(thing, tuple) or len(thing) == 0 or not isinstance(thing[0], str):
        return False
    word, *things = thing
    if word == "wish":
        return len(things) == 2 and is_name(things[0])
    if word == "style":
        return True
    if word not in SIGNS or len(things) != len(SIGNS[word]):
        return False
    return all([_is_so(sign, each) for sign, each in zip(SIGNS[word], things)])


def _is_so(sign, thing):
    """Whether a thing is of the kind that its sign asks for."""
    if sign == "N":
        return is_frac(thing)
    if sign == "I":
        return is_number(thing)
    return isinstance(thing, str)
