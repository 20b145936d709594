"""The places, pairs of roots, that two shapes both have."""

from pegwishes.errors import Along
from pegwishes.fracs import NOUGHT, minus, over, plus, sign_of, times
from pegwishes.roots import root_of, root_sign
from pegwishes.vectors import inner, outer, square, way

ONE = (1, 1)
TWO = (2, 1)
FOUR = (4, 1)


def of_strings(one, other):
    """The places that two strings both have."""
    _, start, end = one
    _, first, last = other
    run = way(start, end)
    second = way(first, last)
    turned = outer(run, second)
    if turned == NOUGHT:
        return _of_side_by_side(one, other)
    lead = way(start, first)
    share = over(outer(lead, second), turned)
    if not _is_part(share) or not _is_part(over(outer(lead, run), turned)):
        return []
    return [_as_roots((plus(start[0], times(share, run[0])), plus(start[1], times(share, run[1]))))]


def of_string_and_hoop(string, hoop):
    """The places that a string and a hoop both have."""
    _, start, end = string
    _, middle, r = hoop
    run = way(start, end)
    lead = way(start, middle)
    far = square(run)
    if far == NOUGHT:
        return [_as_roots(start)] if square(lead) == times(r, r) else []
    aside = outer(run, lead)
    squared = minus(times(times(r, r), far), times(aside, aside))
    places = []
    for root in _roots_both_ways(squared, far):
        # How much of the string is ahead of the place.
        share = _lifted(over(inner(run, lead), far), ONE, root)
        if root_sign(share) >= 0 and root_sign(_lifted((-1, 1), ONE, share)) <= 0:
            places.append((_lifted(start[0], run[0], share), _lifted(start[1], run[1], share)))
    return places


def of_hoops(one, other):
    """The places that two hoops both have."""
    _, middle, r = one
    _, second, reach = other
    run = way(middle, second)
    far = square(run)
    if far == NOUGHT:
        return _of_one_middle(one, other)
    lead = plus(far, minus(times(r, r), times(reach, reach)))
    squared = minus(times(times(FOUR, far), times(r, r)), times(lead, lead))
    share = over(lead, times(TWO, far))
    x = plus(middle[0], times(share, run[0]))
    y = plus(middle[1], times(share, run[1]))
    places = []
    for root in _roots_both_ways(squared, times(TWO, far)):
        places.append((_lifted(x, minus(NOUGHT, run[1]), root), _lifted(y, run[0], root)))
    return places


def _of_side_by_side(one, other):
    """The places that two strings both have, where no turn leads from one to the other."""
    ends = [place for place in one[1:] if _has(other, place)]
    ends = ends + [place for place in other[1:] if _has(one, place)]
    unlike = [place for at, place in enumerate(ends) if place not in ends[:at]]
    # What such strings share is all that lies between the ends that both have.
    if len(unlike) > 1:
        raise Along()
    return [_as_roots(place) for place in unlike]


def _of_one_middle(one, other):
    """The places that two hoops about one place both have."""
    _, middle, r = one
    _, _, reach = other
    if times(r, r) != times(reach, reach):
        return []
    if r != NOUGHT:
        raise Along()
    return [_as_roots(middle)]


def _has(string, place):
    """Whether a string has a place."""
    _, start, end = string
    here = way(place, start)
    there = way(place, end)
    return outer(here, there) == NOUGHT and sign_of(inner(here, there)) <= 0


def _is_part(share):
    """Whether a fraction is from 0 to 1."""
    return sign_of(share) >= 0 and sign_of(minus(share, ONE)) <= 0


def _roots_both_ways(squared, bottom):
    """The unlike roots, less and more than 0, whose square a fraction is, over a bottom."""
    if sign_of(squared) < 0:
        return []
    root = root_of(squared)
    share = over(ONE, bottom)
    more = _lifted(NOUGHT, share, root)
    if squared == NOUGHT:
        return [more]
    return [_lifted(NOUGHT, minus(NOUGHT, share), root), more]


def _lifted(start, many, root):
    """The root that is a fraction and a root so many times."""
    a, b, under = root
    share = times(many, b)
    # Without a share of it, the under is written as 1.
    return (plus(start, times(many, a)), share, 1 if share == NOUGHT else under)


def _as_roots(place):
    """A place of fractions as a place of roots."""
    return ((place[0], NOUGHT, 1), (place[1], NOUGHT, 1))
