"""Promises 2 and 3: the bounds, and the refusals with their classes and fields."""

import unittest

from pegwishes import errors, rules
from pegwishes.errors import (
    Along, BadPath, BadRow, BadStyle, BadText, BadWish, ByNought, Clash, Known,
    NoDeed, NoFigure, NoRoot, NoSheet, NoStyle, NoWish, TooGreat,
)

FIELDS = [
    (BadText, ValueError, "text", "x"),
    (BadRow, ValueError, "row", 3),
    (BadPath, ValueError, "path", "a.b"),
    (BadWish, ValueError, "part", 2),
    (BadStyle, ValueError, "spot", 1),
    (NoRoot, ValueError, "square", (-1, 2)),
    (TooGreat, OverflowError, "many", 10 ** 50),
    (NoFigure, KeyError, "path", "a"),
    (NoWish, KeyError, "name", "w"),
    (NoSheet, KeyError, "name", "s"),
    (NoStyle, LookupError, "spot", 4),
    (NoDeed, LookupError, "many", 9),
    (Known, RuntimeError, "name", "a"),
    (Clash, RuntimeError, "lot", ["a", "b"]),
]
BARE = [(ByNought, ZeroDivisionError), (Along, RuntimeError)]


class Bounds(unittest.TestCase):
    def test_bounds(self):
        told = (rules.ROOTS, rules.WIDE, rules.HIGH, rules.STEPS)
        self.assertEqual(told, (10 ** 6, 24, 12, 24))
        for bound in told:
            self.assertIs(type(bound), int)


class Refusals(unittest.TestCase):
    def test_there_are_sixteen_of_their_own(self):
        told = [thing for thing in vars(errors).values() if isinstance(thing, type)]
        listed = [row[0] for row in FIELDS] + [row[0] for row in BARE]
        self.assertEqual(set(told), set(listed))
        self.assertEqual(len(told), 16)

    def test_each_is_straight_under_its_class(self):
        for kind, base in [row[:2] for row in FIELDS] + BARE:
            self.assertEqual(kind.__bases__, (base,), kind)
            self.assertEqual(kind.__module__, "pegwishes.errors")

    def test_none_is_caught_as_another(self):
        made = [kind(worth) for kind, _, _, worth in FIELDS]
        made += [kind() for kind, _ in BARE]
        for one in made:
            under = [type(other) for other in made if isinstance(one, type(other))]
            self.assertEqual(under, [type(one)])

    def test_the_field_by_place(self):
        for kind, base, field, worth in FIELDS:
            with self.assertRaises(base) as caught:
                raise kind(worth)
            self.assertEqual(getattr(caught.exception, field), worth)

    def test_the_field_by_name(self):
        for kind, base, field, worth in FIELDS:
            with self.assertRaises(base) as caught:
                raise kind(**{field: worth})
            self.assertEqual(getattr(caught.exception, field), worth)
            self.assertIs(type(caught.exception), kind)

    def test_those_without_a_field(self):
        for kind, base in BARE:
            with self.assertRaises(base) as caught:
                raise kind()
            self.assertIs(type(caught.exception), kind)

    def test_a_field_is_asked_for(self):
        for kind, _, _, worth in FIELDS:
            with self.assertRaises(TypeError):
                kind()
            with self.assertRaises(TypeError):
                kind(worth, worth)


if __name__ == "__main__":
    unittest.main()
