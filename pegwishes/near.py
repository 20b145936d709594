"""The nearest numbers that keep a wish, too."""

from pegwishes.errors import Clash
from pegwishes.fracs import minus, plus
from pegwishes.lots import lot_of
from pegwishes.rows import keeps, rows_by, rows_of
from pegwishes.sheets import values_of
from pegwishes.solving import answered
from pegwishes.sums import are_fracs, mixed, summed


def nearest(sheet, wish):
    """The numbers that keep all wishes and this one, of which the sum of squared changes is least."""
    rows = _rows(sheet, wish)
    return _drawn(values_of(sheet), rows, near_paper(sheet, wish))


def near_paper(sheet, wish):
    """The weights of rows whose sum is what the nearest numbers are more than the sheet's own."""
    rows = _rows(sheet, wish)
    values = values_of(sheet)
    # The changes are a sum of rows just where no other changes that keep the rows are as small.
    crossed = [(_times_all(shares, rows), minus(right, summed(shares, values))) for shares, right in rows]
    weights = answered(crossed, len(rows))[0]
    if weights is None:
        raise Clash(lot_of(sheet, wish))
    return weights


def shows_near(sheet, wish, numbers, thing):
    """Whether numbers keep the rows of all wishes and of this one, and a thing is weights of them."""
    rows = _rows(sheet, wish)
    values = values_of(sheet)
    if not are_fracs(list(numbers), len(values)) or not are_fracs(thing, len(rows)):
        return False
    return keeps(rows, numbers) and _drawn(values, rows, thing) == list(numbers)


def _rows(sheet, wish):
    """The rows of a sheet's wishes, then those of a wish."""
    return rows_by(sheet) + rows_of(sheet, wish)


def _times_all(shares, rows):
    """The sums of shares, each as many times as it is in the other row, for all rows."""
    return [summed(shares, others) for others, _ in rows]


def _drawn(values, rows, weights):
    """The values and the sum of the rows' shares, each row its weight of times."""
    changes = mixed([shares for shares, _ in rows], weights, len(values))
    return [plus(value, change) for value, change in zip(values, changes)]
