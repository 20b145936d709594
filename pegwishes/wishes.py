"""Wishes, and what in a thing keeps it from being one."""

from pegwishes.fracs import is_frac
from pegwishes.sheets import kind_or_none

# A sign for each thing behind the word: a tray's or peg's path, a hoop's path, a fraction, a side.
PARTS = {
    "pin": "PNN",
    "level": "PP",
    "plumb": "PP",
    "off": "PPNN",
    "part": "PPPN",
    "like": "PPPP",
    "turn": "PPPP",
    "mirror": "PPP",
    "reach": "HN",
    "big": "HHN",
    "side": "HSP",
}
SIDES = ("east", "north", "west", "south")


def bad_part(sheet, thing):
    """The first place in a wish whose thing is not so, None in a wish of the sheet."""
    if not _is_worded(thing):
        return 0
    signs = PARTS[thing[0]]
    for at in range(1, len(thing)):
        if not _is_so(sheet, signs[at - 1], thing[at]):
            return at
        if _is_again(thing, at):
            return at
    return None


def is_wish(sheet, thing):
    """Whether a thing is a wish of the sheet."""
    return bad_part(sheet, thing) is None


def paths_of(wish):
    """The paths that a wish names, in their order."""
    return [thing for sign, thing in zip(PARTS[wish[0]], wish[1:]) if sign in ("P", "H")]


def _is_worded(thing):
    """Whether a thing is a tuple of a wish's word and as many things as belong to it."""
    if not isinstance(thing, tuple) or len(thing) == 0:
        return False
    word = thing[0]
    if not isinstance(word, str) or word not in PARTS:
        return False
    return len(thing) == len(PARTS[word]) + 1


def _is_so(sheet, sign, thing):
    """Whether a thing is what its sign asks for."""
    if sign == "N":
        return is_frac(thing)
    if sign == "S":
        return thing in SIDES
    kind = kind_or_none(sheet, thing)
    if sign == "H":
        return kind == "hoop"
    return kind in ("tray", "peg")


def _is_again(wish, at):
    """Whether the thing at a place is a path that stands ahead of it, where it must not."""
    signs = PARTS[wish[0]]
    if signs[at - 1] not in ("P", "H"):
        return False
    if wish[0] in ("like", "turn"):
        return _is_pair_again(wish, at)
    # A side's word, or a fraction, is not taken for a path that is written like it.
    ahead = [thing for sign, thing in zip(signs[:at - 1], wish[1:at]) if sign in ("P", "H")]
    return wish[at] in ahead


def _is_pair_again(wish, at):
    """Whether a place ends a pair of one path, or a pair like the first one."""
    if at == 2:
        return wish[2] == wish[1]
    if at == 4:
        return wish[4] == wish[3] or wish[3:5] == wish[1:3]
    return False
