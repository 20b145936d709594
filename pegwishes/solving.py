"""Numbers that keep rows, or weights that show that there are none."""

from math import gcd, lcm
from pegwishes.fracs import NOUGHT, frac


def answered(rows, wide):
    """Numbers that keep rows of so many shares, and None; or None, and weights.

    Rows summed up by these weights have shares of 0 alone, and a right that is not 0.
    """
    held, spare = _reduced(_lines(rows), wide)
    for line in spare:
        if line[wide] != 0:
            return (None, [frac(weight) for weight in line[wide + 1:]])
    numbers = [NOUGHT for _ in range(wide)]
    for at in held:
        numbers[at] = frac(held[at][wide], held[at][at])
    return (numbers, None)


def clashing(rows, wide):
    """Whether no numbers keep rows of so many shares."""
    return answered(rows, wide)[0] is None


def rank_beyond(lines, others, wide):
    """How many of other lines of fractions are no sums of lines and of the ones ahead of them."""
    first, _ = _reduced([_whole(line) for line in lines], wide)
    both, _ = _reduced(list(first.values()) + [_whole(line) for line in others], wide)
    return len(both) - len(first)


def _lines(rows):
    """The rows as whole lines: shares, right, and which row it was, for weights."""
    lines = []
    for at, (shares, right) in enumerate(rows):
        mark = [NOUGHT for _ in rows]
        mark[at] = frac(1)
        lines.append(_whole([*shares, right, *mark]))
    return lines


def _whole(line):
    """A line of fractions, as many times as makes all of them whole."""
    many = 1
    for one in line:
        many = lcm(many, one[1])
    return [top * (many // bottom) for top, bottom in line]


def _reduced(lines, wide):
    """The pair (held, spare).

    Held has lines by a column, of the first so many, in which each of them alone is not 0; lines that
    have none are spare. Whole numbers are used throughout, as they are quicker than fractions.
    """
    held = {}
    spare = []
    for line in lines:
        rest = line
        for at in held:
            rest = _cleared(rest, held[at], at)
        column = _first_column(rest, wide)
        if column is None:
            spare.append(rest)
            continue
        for at in list(held):
            held[at] = _cleared(held[at], rest, column)
        held[column] = rest
    return held, spare


def _first_column(line, wide):
    """The first of so many columns in which a line is not 0."""
    for at in range(wide):
        if line[at] != 0:
            return at
    return None


def _cleared(line, other, column):
    """The line, some times, less another one, so that the column becomes 0."""
    if line[column] == 0:
        return line
    up = other[column]
    down = line[column]
    rest = [up * one - down * two for one, two in zip(line, other)]
    shared = _shared(rest)
    # Without this the numbers would grow twice as long with each step.
    if shared > 1:
        return [one // shared for one in rest]
    return rest


def _shared(line):
    """The greatest number that divides all of a line, 0 of a line of 0 alone."""
    shared = 0
    for one in line:
        shared = gcd(shared, one)
        if shared == 1:
            return shared
    return shared
