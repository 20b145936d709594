"""Places, pairs of fractions, taken as ways from one to another."""

from pegwishes.fracs import minus, plus, times


def way(start, end):
    """What a place is less another one."""
    return (minus(end[0], start[0]), minus(end[1], start[1]))


def inner(one, other):
    """x times x and y times y; 0 just where one way stands upright on the other."""
    return plus(times(one[0], other[0]), times(one[1], other[1]))


def outer(one, other):
    """x times y less y times x; 0 just where both ways lie on one line."""
    return minus(times(one[0], other[1]), times(one[1], other[0]))


def square(one):
    """The square of how long a way is."""
    return inner(one, one)
