"""Sums of fractions, each its share of times, and of rows."""

from pegwishes.fracs import NOUGHT, is_frac, plus, times


def summed(shares, numbers):
    """The sum of numbers, each its share of times."""
    total = NOUGHT
    for share, number in zip(shares, numbers):
        # Most shares of a row are 0, and skipping them saves most of the work.
        if share != NOUGHT:
            total = plus(total, times(share, number))
    return total


def mixed(lines, weights, wide):
    """The sum of lines of so many fractions, each its weight of times."""
    return [summed(weights, [line[at] for line in lines]) for at in range(wide)]


def are_fracs(thing, many):
    """Whether a thing is a list of so many fractions."""
    if not isinstance(thing, list) or len(thing) != many:
        return False
    return all([is_frac(one) for one in thing])
