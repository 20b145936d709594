"""Sheets made of short rows, and sums worked out another way than the program does."""

import functools
import random
import re
from fractions import Fraction

from pegwishes.deeds import done
from pegwishes.errors import BadPath, BadStyle, BadWish, Clash, Known, NoFigure, NoStyle, NoWish
from pegwishes.sheets import Sheet

REFUSED = (BadPath, BadStyle, BadWish, Clash, Known, NoFigure, NoStyle, NoWish)


def q(value):
    """The fraction of a text or a number."""
    value = Fraction(value)
    return (value.numerator, value.denominator)


def qs(text):
    """The fractions of a text, parted by blanks."""
    return [q(word) for word in text.split()]


def thing(word):
    return q(word) if re.fullmatch(r"-?\d+(/\d+)?", word) else word


def wish(text):
    return tuple(thing(word) for word in text.split())


def deed(text):
    """The deed of a row, such as `peg a 1 2` or `wish w pin a 1 2`."""
    words = text.split()
    if words[0] == "wish":
        return ("wish", words[1], wish(" ".join(words[2:])))
    if words[0] in ("style", "unstyle"):
        return tuple(int(word) if word.isdigit() else word for word in words)
    return tuple(thing(word) for word in words)


def changed(sheet, *rows):
    for row in rows:
        sheet = done(sheet, deed(row) if isinstance(row, str) else row)
    return sheet


def built(*rows):
    """The sheet behind the deeds of rows."""
    return changed(Sheet(), *rows)


def values(sheet):
    return [value for _, _, value in sheet.numbers()]


def shown(sheet):
    """All numbers of a sheet, as a text that is easy to compare."""
    return " ".join(str(Fraction(*value)) for value in values(sheet))


def all_of(sheet):
    """All that a sheet tells of itself."""
    return (sheet.figures(), sheet.numbers(), sheet.wishes(), sheet.styles(), len(sheet), repr(sheet))


# From here on: the same sums by Python's Fractions, on plain dicts.


def place_in(numbers, path):
    """The place of a path where numbers are a dict of (path, axis)."""
    heads = [path[:at] for at in range(len(path)) if path[at] == "."] + [path]
    return tuple(sum(numbers[(head, axis)] for head in heads) for axis in "xy")


def lacks(pegs, wish, numbers):
    """What is first less what it is to be, for each row of a wish, straight from its words."""
    word, *parts = wish
    named = parts + [pegs[parts[0]]] if word == "side" else parts
    where = {part: place_in(numbers, part) for part in named if (part, "x") in numbers}

    def fraction(at):
        return Fraction(*parts[at])

    if word == "pin":
        x, y = where[parts[0]]
        return [x - fraction(1), y - fraction(2)]
    if word in ("level", "plumb"):
        axis = "xy".index({"plumb": "x", "level": "y"}[word])
        return [where[parts[0]][axis] - where[parts[1]][axis]]
    if word == "off":
        return [where[parts[1]][k] - where[parts[0]][k] - fraction(2 + k) for k in (0, 1)]
    if word == "part":
        m, p, other = (where[part] for part in parts[:3])
        return [m[k] - (p[k] + fraction(3) * (other[k] - p[k])) for k in (0, 1)]
    if word in ("like", "turn"):
        p, other, r, s = (where[part] for part in parts)
        x, y = (other[k] - p[k] for k in (0, 1))
        aim = (x, y) if word == "like" else (-y, x)
        return [s[k] - r[k] - aim[k] for k in (0, 1)]
    if word == "mirror":
        p, other, r = (where[part] for part in parts)
        return [p[0] + other[0] - 2 * r[0], p[1] - other[1]]
    if word == "reach":
        return [numbers[(parts[0], "r")] - fraction(1)]
    if word == "big":
        return [numbers[(parts[0], "r")] - fraction(2) * numbers[(parts[1], "r")]]
    across, up = {"east": (1, 0), "north": (0, 1), "west": (-1, 0), "south": (0, -1)}[parts[1]]
    r = numbers[(parts[0], "r")]
    middle = where[pegs[parts[0]]]
    return [where[parts[2]][0] - middle[0] - across * r, where[parts[2]][1] - middle[1] - up * r]


def rows_told(sheet, wish):
    """The rows of a wish, got by asking what it lacks where all numbers are 0 but one that is 1."""
    rows = rows_of_spots(tuple(sheet.figures()), tuple(spot[:2] for spot in sheet.numbers()), wish)
    return [(list(shares), right) for shares, right in rows]


@functools.cache
def rows_of_spots(figures, spots, wish):
    pegs = {figure[1]: figure[2] for figure in figures if figure[0] == "hoop"}
    numbers = {spot: 0 for spot in spots}
    bare = lacks(pegs, wish, numbers)
    lines = []
    for one in spots:
        numbers[one] = 1
        lines.append(lacks(pegs, wish, numbers))
        numbers[one] = 0
    return [([Fraction(line[k] - bare[k]) for line in lines], Fraction(-bare[k])) for k in range(len(bare))]


def rows_told_by(sheet):
    return [row for _, each in sheet.wishes() for row in rows_told(sheet, each)]


def reduced(lines):
    """The lines in echelon, those of 0 alone left out, with the columns of their leads."""
    lines = [list(line) for line in lines]
    leads = []
    for column in range(len(lines[0]) if lines else 0):
        at = len(leads)
        found = [k for k in range(at, len(lines)) if lines[k][column] != 0]
        if not found:
            continue
        lines[at], lines[found[0]] = lines[found[0]], lines[at]
        lead = lines[at][column]
        lines[at] = [one / lead if one else one for one in lines[at]]
        for k in range(len(lines)):
            if k != at and lines[k][column] != 0:
                lines[k] = [one - lines[k][column] * two if two else one for one, two in zip(lines[k], lines[at])]
        leads.append(column)
    return lines[:len(leads)], leads


def rank(lines):
    return len(reduced(lines)[1])


def can_be_kept(rows):
    return rank([shares for shares, _ in rows]) == rank([shares + [right] for shares, right in rows])


def loose(lines, wide):
    """A basis of all changes that lines do not see."""
    kept, leads = reduced(lines)
    told = []
    for free in [k for k in range(wide) if k not in leads]:
        change = [Fraction(k == free) for k in range(wide)]
        for line, lead in zip(kept, leads):
            change[lead] = -line[free]
        told.append(change)
    return told


def dot(one, other):
    return sum((a * b for a, b in zip(one, other)), Fraction(0))


def fractions(told):
    return [Fraction(*one) for one in told]


class Chance:
    """Sheets and wishes by chance, the same ones on each run."""

    def __init__(self, seed):
        self.dice = random.Random(seed)

    def number(self):
        return q(Fraction(self.dice.randint(-6, 6), self.dice.choice([1, 1, 1, 2, 3])))

    def figures(self, trays=3, pegs=6, strings=3, hoops=3):
        """A sheet of figures without wishes."""
        sheet = Sheet()
        homes = [""]
        for at in range(trays):
            home = self.dice.choice([one for one in homes if one.count(".") < 2])
            sheet = done(sheet, ("tray", home + "t" + "abcd"[at], self.number(), self.number()))
            homes.append(home + "t" + "abcd"[at] + ".")
        homes = [home for home in homes if home.count(".") < 3]
        names = []
        for at in range(pegs):
            names.append(self.dice.choice(homes) + "p" + "abcdefgh"[at])
            sheet = done(sheet, ("peg", names[-1], self.number(), self.number()))
        for at in range(strings):
            one, other = self.dice.sample(names, 2)
            sheet = done(sheet, ("string", self.dice.choice(homes) + "s" + "abcdefgh"[at], one, other))
        for at in range(hoops):
            path = self.dice.choice(homes) + "h" + "abcd"[at]
            sheet = done(sheet, ("hoop", path, self.dice.choice(names), self.number()))
        return sheet

    def wish(self, sheet):
        """A wish of the sheet."""
        places = [figure[1] for figure in sheet.figures() if figure[0] in ("tray", "peg")]
        hoops = [figure[1] for figure in sheet.figures() if figure[0] == "hoop"]
        words = "pin level plumb off part like turn mirror".split()
        if len(hoops) > 1:
            words += ["reach", "big", "side"]
        word = self.dice.choice(words)
        some = self.dice.sample(places, 4)
        if word in ("pin", "off"):
            return (word, *some[:1 if word == "pin" else 2], self.number(), self.number())
        if word in ("level", "plumb", "like", "turn", "mirror"):
            return (word, *some[:{"level": 2, "plumb": 2, "mirror": 3}.get(word, 4)])
        if word == "part":
            return (word, *some[:3], self.number())
        if word == "side":
            return (word, self.dice.choice(hoops), self.dice.choice("east north west south".split()), some[0])
        return (word, *self.dice.sample(hoops, 2 if word == "big" else 1), self.number())

    def sheet(self, many=6, **figures):
        """A sheet with up to so many wishes that do not clash."""
        sheet = self.figures(**figures)
        for at in range(many):
            wish = self.wish(sheet)
            rows = rows_told_by(sheet) + rows_told(sheet, wish)
            if can_be_kept(rows):
                sheet = done(sheet, ("wish", "w" + "abcdefghij"[at], wish))
        return sheet

    def deed(self, sheet):
        """A deed, most often one that the sheet does not refuse."""
        dice = self.dice
        paths = {kind: [figure[1] for figure in sheet.figures() if figure[0] == kind] for kind in ("tray", "peg", "string", "hoop")}
        places = paths["tray"] + paths["peg"]
        home = dice.choice([""] + [tray + "." for tray in paths["tray"]])
        fresh = home + "n" + dice.choice("abcdefghijklmnopqrst")
        word = dice.choice("tray peg string hoop remove stamp wish wish wish unwish move move move style style unstyle".split())
        if word in ("tray", "peg"):
            return (word, fresh, self.number(), self.number())
        if word == "string":
            return (word, fresh, *(dice.sample(paths["peg"], 2) if len(paths["peg"]) > 1 else ["a", "b"]))
        if word == "hoop":
            return (word, fresh, dice.choice(paths["peg"] or ["a"]), self.number())
        if word == "remove":
            return (word, dice.choice(places + paths["string"] + paths["hoop"] or ["a"]))
        if word == "stamp":
            return (word, dice.choice(paths["tray"] or ["a"]), fresh)
        if word == "wish":
            return (word, "v" + dice.choice("abcdefghijkl"), self.wish(sheet) if len(places) > 3 else None)
        if word == "unwish":
            return (word, dice.choice([name for name, _ in sheet.wishes()] or ["a"]))
        if word == "move":
            return (word, dice.choice(places or ["a"]), self.number(), self.number())
        if word == "unstyle":
            return (word, dice.randrange(1 + len(sheet.styles())))
        how = dice.choice(["kind", "in", "at"])
        whats = {"kind": ["peg", "string", "hoop"], "in": paths["tray"], "at": paths["peg"] + paths["string"] + paths["hoop"]}
        key = dice.choice(["ink", "layer", "shown"])
        value = {"ink": dice.choice("qrstuv"), "layer": dice.randrange(10), "shown": dice.choice(["yes", "no"])}[key]
        return (word, how, dice.choice(whats[how] or ["a"]), key, value)

    def walked(self, sheet):
        """The sheet behind a deed, or the same where it is refused."""
        try:
            return done(sheet, self.deed(sheet))
        except REFUSED:
            return sheet
