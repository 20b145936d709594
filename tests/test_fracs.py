"""Promise 4: fractions."""

import unittest
from fractions import Fraction
from math import floor

from pegwishes import errors
from pegwishes.errors import BadText, ByNought
from pegwishes.fracs import (
    floor_of, frac, frac_in, frac_text, is_frac, minus, over, plus, sign_of, times,
)
from things import ODD

SOME = [
    (0, 1), (1, 1), (-1, 1), (1, 2), (-1, 2), (3, 4), (-3, 4), (7, 3), (-7, 3), (12, 1), (5, 12), (-9, 8),
    (10 ** 40 - 1, 10 ** 40 - 3), (-(10 ** 40 - 1), 7), (1, 10 ** 40 - 1), (10 ** 39, 3),
]
# Longer than what Python turns into a text in one go.
LONG = 7 ** 8000


def pair(value):
    return (value.numerator, value.denominator)


class IsFrac(unittest.TestCase):
    def test_fractions(self):
        for one in SOME + [(LONG, 10 ** 5000), (-LONG, 2)]:
            self.assertIs(is_frac(one), True)

    def test_not_lowered(self):
        for thing in [(2, 4), (0, 2), (0, 10 ** 30), (-3, 3), (6, 4), (10 ** 30, 10 ** 20), (5, 5)]:
            self.assertIs(is_frac(thing), False, thing)

    def test_bottoms_of_nought_and_below(self):
        for thing in [(1, 0), (0, 0), (1, -1), (3, -4), (-3, -4), (0, -1)]:
            self.assertIs(is_frac(thing), False, thing)

    def test_one_part_otherwise(self):
        for thing in [
            [1, 2], [0, 1], (True, 2), (False, 1), (1, True), (3, True), (False, True), (None, 1), (1, None),
            ("1", 2), (1, "2"), (1,), (1, 2, 1), (), ((1, 1), 2), (1, (2, 1)), ([1], 2), ((1, 2),), ((1, 2), (1, 2)),
        ]:
            self.assertIs(is_frac(thing), False, thing)

    def test_anything(self):
        for thing in ODD:
            self.assertIs(is_frac(thing), thing == (1, 2) and isinstance(thing, tuple), thing)


class Frac(unittest.TestCase):
    def test_lowered_with_bottom_above_nought(self):
        for top in list(range(-30, 31)) + [10 ** 40 - 1, -(10 ** 39)]:
            for bottom in list(range(-12, 0)) + list(range(1, 13)) + [10 ** 39, -(10 ** 40 - 1)]:
                told = frac(top, bottom)
                self.assertEqual(told, pair(Fraction(top, bottom)))
                self.assertIs(is_frac(told), True)

    def test_bottom_left_out(self):
        self.assertEqual(frac(7), (7, 1))
        self.assertEqual(frac(0), (0, 1))
        self.assertEqual(frac(-7), (-7, 1))

    def test_nought(self):
        self.assertEqual(frac(0, 5), (0, 1))
        self.assertEqual(frac(0, -5), (0, 1))

    def test_bottom_nought(self):
        for top in [0, 1, -3, 10 ** 39]:
            with self.assertRaises(ZeroDivisionError) as caught:
                frac(top, 0)
            self.assertIs(type(caught.exception), ByNought)


class Sums(unittest.TestCase):
    def test_two_by_two(self):
        for one in SOME:
            for other in SOME:
                left, right = Fraction(*one), Fraction(*other)
                self.assertEqual(plus(one, other), pair(left + right))
                self.assertEqual(minus(one, other), pair(left - right))
                self.assertEqual(times(one, other), pair(left * right))
                if right != 0:
                    self.assertEqual(over(one, other), pair(left / right))

    def test_told_are_fractions(self):
        for one in SOME:
            for told in [plus(one, one), minus(one, one), times(one, one), over(one, (-3, 7))]:
                self.assertIs(is_frac(told), True)

    def test_by_nought(self):
        for one in SOME:
            with self.assertRaises(ZeroDivisionError) as caught:
                over(one, (0, 1))
            self.assertIs(type(caught.exception), ByNought)

    def test_sign(self):
        for one in SOME:
            value = Fraction(*one)
            told = sign_of(one)
            self.assertEqual(told, (value > 0) - (value < 0))
            self.assertIs(type(told), int)

    def test_floor(self):
        for one in SOME:
            self.assertEqual(floor_of(one), floor(Fraction(*one)))
        self.assertEqual(floor_of((-1, 2)), -1)
        self.assertEqual(floor_of((-7, 3)), -3)
        self.assertEqual(floor_of((-2, 1)), -2)


class Texts(unittest.TestCase):
    def test_as_written(self):
        for one, text in [
            ((3, 1), "3"), ((-3, 4), "-3/4"), ((0, 1), "0"), ((-12, 1), "-12"), ((10, 7), "10/7"), ((1, 100), "1/100"),
        ]:
            self.assertEqual(frac_text(one), text)
            self.assertEqual(frac_in(text), one)

    def test_there_and_back(self):
        for one in SOME:
            text = frac_text(one)
            self.assertEqual(text, str(Fraction(*one)))
            self.assertEqual(frac_in(text), one)

    def test_figures_within_are_kept(self):
        for many in range(55, 125):
            for number in [10 ** many, 10 ** many - 1, 10 ** many + 1, -(10 ** many)]:
                self.assertEqual(frac_text((number, 1)), str(number))
                self.assertEqual(frac_in(str(number)), (number, 1))

    def test_of_any_length(self):
        for one in [(LONG, 1), (-LONG, 10 ** 5000), (1, LONG)]:
            text = frac_text(one)
            self.assertEqual(frac_in(text), one)
        self.assertEqual(frac_text((10 ** 5000, 3)), "1" + "0" * 5000 + "/3")

    def test_refused(self):
        for text in [
            "", "+1", "+1/2", "1/+2", "01", "00", "-01", "1/02", "01/2", "-0", "-0/1", "0/1", "3/1", "-3/1", "6/4", "3/-4",
            "-3/-4", "0/2", "2/0", "0/0", "1/0", " 1", "1 ", " ", "1 /2", "1/ 2", "- 1", "1_0", "1/1_0", "_1", "a", "1a",
            "1/b", "x/y", "r", "1r2", "1/2/3", "//", "/", "1/", "/2", "-/2", "-", "--1", "1-", "1.0", "1e3", "0x1", "1\n",
            "\n1", "1/2\n", "\t1", "\u0661", "1/\u0662", "\u00b2", "1\u00b2", "\uff11", "(1, 2)", "True", "None", "1//2",
            "-1/-2", "2/4", "1\x00", "0" * 100, "0" + "1" * 5000,
        ]:
            with self.assertRaises(ValueError) as caught:
                frac_in(text)
            self.assertIs(type(caught.exception), BadText, text)
            self.assertEqual(caught.exception.text, text)

    def test_only_the_text_of_one(self):
        signs = "-01234/ "
        many = 0
        for code in range(len(signs) ** 4):
            text = "".join(signs[code // len(signs) ** k % len(signs)] for k in range(4)).rstrip(" ")
            try:
                told = frac_in(text)
            except BadText:
                continue
            many += 1
            self.assertIs(is_frac(told), True)
            self.assertEqual(frac_text(told), text)
        self.assertGreater(many, 500)


class Handing(unittest.TestCase):
    def test_by_names(self):
        self.assertIs(is_frac((1, 2)), True)
        self.assertEqual(frac(top=6, bottom=-4), (-3, 2))
        self.assertEqual(frac(bottom=3, top=6), (2, 1))
        self.assertEqual(frac(top=6), (6, 1))
        self.assertEqual(plus(one=(1, 2), other=(1, 3)), (5, 6))
        self.assertEqual(minus(other=(1, 2), one=(1, 3)), (-1, 6))
        self.assertEqual(times(one=(1, 2), other=(2, 3)), (1, 3))
        self.assertEqual(over(other=(1, 2), one=(1, 3)), (2, 3))
        self.assertEqual(sign_of(one=(-1, 2)), -1)
        self.assertEqual(floor_of(one=(-1, 2)), -1)
        self.assertEqual(frac_text(one=(-1, 2)), "-1/2")
        self.assertEqual(frac_in(text="-1/2"), (-1, 2))

    def test_nothing_is_changed_and_all_is_told_again(self):
        things = [[1, 2], [[1], (2, [3])], ([1, 2], 3)]
        shown = repr(things)
        for thing in things:
            self.assertIs(is_frac(thing), False)
            self.assertIs(is_frac(thing), False)
        self.assertEqual(repr(things), shown)
        one, other = (1, 2), (-3, 4)
        for deed in [plus, minus, times, over]:
            self.assertEqual(deed(one, other), deed(one, other))
        self.assertEqual((one, other), ((1, 2), (-3, 4)))

    def test_tuples_are_told(self):
        for told in [frac(3), frac(6, 4), plus((1, 2), (1, 2)), over((1, 2), (3, 1)), frac_in("3"), frac_in("-3/4")]:
            self.assertIs(type(told), tuple)
            for part in told:
                self.assertIs(type(part), int)

    def test_no_other_refusal(self):
        kinds = [thing for thing in vars(errors).values() if isinstance(thing, type)]
        for call, kind in [(lambda: frac(1, 0), ByNought), (lambda: frac_in("x"), BadText)]:
            with self.assertRaises(kind) as caught:
                call()
            self.assertEqual([one for one in kinds if isinstance(caught.exception, one)], [kind])


if __name__ == "__main__":
    unittest.main()
