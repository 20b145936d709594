"""Which texts are those of deeds and of sheets, told another way than the program does."""

import re
from fractions import Fraction
from math import gcd

from making import deed, lacks

NAME = "[a-z]{1,8}"
PATH = NAME + "([.]" + NAME + "){0,2}"
FRAC = "(0|-?[1-9][0-9]*|-?[1-9][0-9]*/[1-9][0-9]*)"
SIDE = "(east|north|west|south)"
WISHES = {
    "pin": "P F F", "level": "P P", "plumb": "P P", "off": "P P F F", "part": "P P P F", "like": "P P P P", "turn": "P P P P",
    "mirror": "P P P", "reach": "H F", "big": "H H F", "side": "H S P",
}
FORMS = [
    "tray P F F", "peg P F F", "string P P P", "hoop P P F", "remove P", "stamp P P", "unwish N", "move P F F", "unstyle I",
    "style (kind|in|at) P (ink|layer|shown) ([a-z]|[0-9]|yes|no)",
] + ["wish N " + word + " " + form for word, form in WISHES.items()]
SIGNS = {"P": PATH, "H": PATH, "F": FRAC, "N": NAME, "S": SIDE, "I": "(0|[1-9][0-9]*)"}
PATTERNS = [" ".join(SIGNS.get(word, word) for word in form.split(" ")) for form in FORMS]


def is_lowered(word):
    top, stroke, bottom = word.partition("/")
    return not stroke or (bottom != "1" and gcd(int(top), int(bottom)) == 1)


def is_deed_text(text):
    if not any(re.fullmatch(pattern, text, re.ASCII) for pattern in PATTERNS) or text.endswith("\n"):
        return False
    return all(is_lowered(word) for word in text.split(" ") if re.fullmatch(FRAC, word))


def is_wish_there(kinds, word, parts):
    for part, sign in zip(parts, WISHES[word].split(" ")):
        if sign in "PH" and kinds.get(part) not in {"P": ("tray", "peg"), "H": ("hoop",)}[sign]:
            return False
    if word in ("like", "turn"):
        p, other, r, s = parts
        return p != other and r != s and (p, other) != (r, s)
    paths = [part for part, sign in zip(parts, WISHES[word].split(" ")) if sign in "PH"]
    return len(set(paths)) == len(paths)


def is_style_there(kinds, how, what, key, value):
    if key == "ink" and not re.fullmatch("[a-z]", value) or key == "layer" and not value.isdigit():
        return False
    if key == "shown" and value not in ("yes", "no"):
        return False
    if how == "kind":
        return what in ("peg", "string", "hoop")
    return kinds.get(what) in {"in": ("tray",), "at": ("peg", "string", "hoop")}[how]


def is_figure_there(kinds, word, path, ends):
    tray = path.rpartition(".")[0]
    if path in kinds or (tray and kinds.get(tray) != "tray"):
        return False
    return word in ("tray", "peg") or (all(kinds.get(end) == "peg" for end in ends) and len(set(ends)) == len(ends))


def bad_row(text):
    """The first row that is not so written or cannot stand there, None where there is none."""
    kinds, numbers, pegs, names, section = {}, {}, {}, [], 0
    for at, row in enumerate(text.split("\n") if text else []):
        word, *words = row.split(" ")
        order = {"wish": 1, "style": 2}.get(word, 0)
        if not is_deed_text(row) or word not in "tray peg string hoop wish style".split() or order < section:
            return at
        section = order
        if word == "style":
            if not is_style_there(kinds, *words):
                return at
            continue
        if word == "wish":
            name, kind, *parts = words
            if name in names or not is_wish_there(kinds, kind, parts) or any(lacks(pegs, deed(row)[2], numbers)):
                return at
            names.append(name)
            continue
        ends = words[1:{"string": 3, "hoop": 2}.get(word, 1)]
        if not is_figure_there(kinds, word, words[0], ends):
            return at
        kinds[words[0]] = word
        if word == "hoop":
            pegs[words[0]] = ends[0]
        for axis, value in zip({"hoop": "r", "string": ""}.get(word, "xy"), words[1 + len(ends):]):
            numbers[(words[0], axis)] = Fraction(value)
    return None
