"""Words of rows: the things that they tell."""

from pegwishes.fracs import frac_or_none
from pegwishes.paths import is_name, is_path
from pegwishes.styles import HOWS, KEYS, SHOWN, is_ink
from pegwishes.whole import number_in
from pegwishes.wishes import SIDES


def things_in(signs, words):
    """The things that words tell, one for each sign; None where one isn't so written."""
    if len(words) != len(signs):
        return None
    things = [_thing_in(sign, word) for sign, word in zip(signs, words)]
    return None if None in things else things


def _thing_in(sign, word):
    """The thing that a word tells, None where it is not what its sign asks for."""
    reader = READERS[sign]
    return reader(word)


def _name_in(word):
    """A NAME."""
    return word if is_name(word) else None


def _path_in(word):
    """A PATH, of whatever is there."""
    return word if is_path(word) else None


def _fraction_in(word):
    """A FRACTION."""
    return frac_or_none(word)


def _side_in(word):
    """A side's word."""
    return word if word in SIDES else None


def _how_in(word):
    """A rule's how."""
    return word if word in HOWS else None


def _key_in(word):
    """A rule's key."""
    return word if word in KEYS else None


def _value_in(word):
    """A rule's value, whatever its key."""
    if word in SHOWN or is_ink(word):
        return word
    return number_in(word) if len(word) == 1 else None


def _spot_in(word):
    """A number from 0 on."""
    return None if word.startswith("-") else number_in(word)


# The signs of a wish's things are those of wishes.py.
READERS = {
    "A": _name_in,
    "P": _path_in,
    "H": _path_in,
    "N": _fraction_in,
    "S": _side_in,
    "W": _how_in,
    "K": _key_in,
    "V": _value_in,
    "I": _spot_in,
}
