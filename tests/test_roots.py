"""Promise 5: roots."""

import unittest
from fractions import Fraction
from itertools import product
from math import isqrt

from pegwishes import errors
from pegwishes.errors import BadText, NoRoot, TooGreat
from pegwishes.fracs import frac
from pegwishes.roots import is_less, is_root, root_in, root_of, root_sign, root_text, rooted
from pegwishes.rules import ROOTS
from things import ODD

NO = (0, 1)
YES = (1, 1)
# The greatest under that a root can have: 757 times 1321.
HIGHEST = 999997
SOME = [
    (NO, NO, 1), (YES, NO, 1), ((-1, 2), NO, 1), (NO, YES, 2), (NO, (-1, 3), 2), ((1, 2), (-3, 2), 5),
    ((-7, 5), YES, 2), ((7, 5), (-1, 1), 2), ((-3, 2), YES, 2), ((3, 2), (-1, 1), 2), ((3, 1), (2, 1), 7),
    ((-3, 1), (-2, 1), 7), ((-5, 1), (2, 1), 6), ((5, 1), (-2, 1), 6), (NO, YES, HIGHEST), ((1000, 1), (-1, 1), HIGHEST),
    ((10 ** 40 - 1, 7), (-(10 ** 40 - 1), 8), 10), ((8119, 5741), NO, 1), ((19601, 13860), NO, 1),
    (NO, (1, 10 ** 39), 3), (NO, YES, 3), ((1, 1), (1, 2), 3), ((3, 1), (-1, 1), 5), ((-1, 1), (1, 1), 5),
]


def squarefree(many):
    return all(many % (k * k) for k in range(2, isqrt(many) + 1))


def scaled(root, figures):
    """The floor, or one below it, of a root times 10 ** figures: worked out with whole numbers alone."""
    a, b, under = root
    wide = 10 ** figures
    whole = a[0] * wide // a[1]
    part = isqrt(under * b[0] * b[0] * wide * wide // (b[1] * b[1]))
    return whole + part if b[0] >= 0 else whole - part - 1


def fracs_of(root):
    return Fraction(*root[0]), Fraction(*root[1]), root[2]


class IsRoot(unittest.TestCase):
    def test_roots(self):
        for root in SOME:
            self.assertIs(is_root(root), True, root)

    def test_under_one_just_where_b_is_nought(self):
        for a in [NO, YES, (-3, 4)]:
            self.assertIs(is_root((a, NO, 1)), True)
            self.assertIs(is_root((a, YES, 1)), False)
            self.assertIs(is_root((a, (-1, 2), 1)), False)
            self.assertIs(is_root((a, NO, 2)), False)
            self.assertIs(is_root((a, NO, HIGHEST)), False)

    def test_all_low_unders(self):
        for under in range(2, 1200):
            self.assertIs(is_root((YES, YES, under)), squarefree(under), under)

    def test_unders_that_a_square_divides(self):
        for under in [4, 8, 9, 12, 25, 49, 50, 961, 994009, 998001, 999998, 999999, ROOTS, 2 * 701 ** 2, 997 ** 2]:
            self.assertIs(is_root((NO, YES, under)), False, under)

    def test_unders_about_the_bound(self):
        for under in [999995, HIGHEST, 999983]:
            self.assertIs(is_root((NO, YES, under)), squarefree(under), under)
        self.assertIs(is_root((NO, YES, HIGHEST)), True)
        for under in [ROOTS + 1, ROOTS + 3, 1000003, 10 ** 40 - 1, 10 ** 60 + 7]:
            self.assertIs(is_root((NO, YES, under)), False, under)

    def test_unders_of_nought_and_below(self):
        for under in [0, -1, -2, -5, -(10 ** 30)]:
            self.assertIs(is_root((YES, YES, under)), False)
            self.assertIs(is_root((YES, NO, under)), False)

    def test_one_part_otherwise(self):
        good = (YES, (1, 2), 5)
        self.assertIs(is_root(good), True)
        for at in range(3):
            for thing in [
                None, True, False, "1", "", [1, 2], (2, 4), (1, 0), (1, -2), (True, 2), (1, True), (1,), (1, 2, 3),
                (), [], ((1, 2), 1), 0, (5, 1, 1), [5],
            ]:
                parts = list(good)
                parts[at] = thing
                self.assertIs(is_root(tuple(parts)), False, parts)
        self.assertIs(is_root((YES, NO, True)), False)
        self.assertIs(is_root((YES, (1, 2), (5, 1))), False)

    def test_other_shapes(self):
        for thing in [
            [YES, (1, 2), 5], (YES, (1, 2)), (YES, (1, 2), 5, 5), ((YES, (1, 2), 5),), YES, (YES, (1, 2), "5"),
            (YES, NO), (NO, NO, 1, 1), [NO, NO, 1], ((NO, NO, 1), (NO, NO, 1), 1), "1r5", (1, 2, 5), (0, 0, 1),
        ]:
            self.assertIs(is_root(thing), False, thing)

    def test_anything(self):
        for thing in ODD:
            self.assertIs(is_root(thing), False, thing)


class Rooted(unittest.TestCase):
    def test_nought_and_one(self):
        self.assertEqual(rooted((1, 2), (3, 4), 0), ((1, 2), NO, 1))
        self.assertEqual(rooted((1, 2), (3, 4), 1), ((5, 4), NO, 1))
        self.assertEqual(rooted(NO, NO, 0), (NO, NO, 1))

    def test_squares(self):
        for side in list(range(1, 60)) + [500, 997, 999, 1000]:
            self.assertEqual(rooted((1, 2), (-1, 3), side * side), (frac(3 - 2 * side, 6), NO, 1))

    def test_b_nought(self):
        for many in [0, 1, 2, 4, 12, HIGHEST, ROOTS]:
            self.assertEqual(rooted((-1, 2), NO, many), ((-1, 2), NO, 1))

    def test_squares_times_small_numbers(self):
        for under in [2, 3, 5, 6, 7, 10, 30, 997]:
            for side in range(1, 31):
                told = rooted((2, 3), (1, 6), side * side * under)
                self.assertEqual(told, ((2, 3), frac(side, 6), under))

    def test_all_low_ones(self):
        for many in range(1, 800):
            told = rooted(NO, YES, many)
            self.assertIs(is_root(told), True)
            a, b, under = fracs_of(told)
            self.assertEqual((a + b) ** 2 if under == 1 else b * b * under, many)

    def test_the_bound(self):
        self.assertEqual(rooted((1, 2), YES, ROOTS), ((2001, 2), NO, 1))
        self.assertEqual(rooted(NO, YES, ROOTS - 1), (NO, (3, 1), 111111))
        self.assertEqual(rooted(NO, YES, ROOTS - 2), (NO, (127, 1), 62))
        self.assertEqual(rooted(NO, YES, HIGHEST), (NO, YES, HIGHEST))

    def test_above_the_bound(self):
        for many in [ROOTS + 1, 1001 * 1001, 4 * ROOTS, 10 ** 6 * 10 ** 6, 2 * ROOTS, 10 ** 50]:
            for b in [YES, NO, (-1, 2)]:
                with self.assertRaises(OverflowError) as caught:
                    rooted((1, 2), b, many)
                self.assertIs(type(caught.exception), TooGreat)
                self.assertEqual(caught.exception.many, many)


class RootOf(unittest.TestCase):
    def test_nought_and_squares(self):
        self.assertEqual(root_of(NO), (NO, NO, 1))
        for top, bottom in [(1, 1), (3, 1), (1, 2), (3, 4), (31, 32), (1000, 1), (1, 1000), (25, 7)]:
            self.assertEqual(root_of((top * top, bottom * bottom)), ((top, bottom), NO, 1))

    def test_others(self):
        self.assertEqual(root_of((2, 1)), (NO, YES, 2))
        self.assertEqual(root_of((1, 2)), (NO, (1, 2), 2))
        self.assertEqual(root_of((8, 1)), (NO, (2, 1), 2))
        self.assertEqual(root_of((3, 4)), (NO, (1, 2), 3))
        self.assertEqual(root_of((5, 12)), (NO, (1, 6), 15))
        self.assertEqual(root_of((HIGHEST, 1)), (NO, YES, HIGHEST))

    def test_its_square(self):
        for top, bottom in product(range(0, 40), range(1, 20)):
            square = frac(top, bottom)
            told = root_of(square)
            self.assertIs(is_root(told), True)
            self.assertGreaterEqual(root_sign(told), 0)
            a, b, under = fracs_of(told)
            self.assertTrue(a == 0 or b == 0)
            self.assertEqual(a * a + b * b * under, Fraction(top, bottom))

    def test_below_nought(self):
        for square in [(-1, 1), (-1, 2), (-4, 1), (-(10 ** 39), 7), (-1, 10 ** 39)]:
            with self.assertRaises(ValueError) as caught:
                root_of(square)
            self.assertIs(type(caught.exception), NoRoot)
            self.assertEqual(caught.exception.square, square)

    def test_too_great(self):
        for square, many in [
            ((ROOTS + 1, 1), ROOTS + 1), ((1001 * 1001, 1), 1001 * 1001), ((1, ROOTS + 1), ROOTS + 1),
            ((1001, 1000), 1001000), ((4, 1002001), 4008004), ((10 ** 40 - 1, 10 ** 40 - 3), (10 ** 40 - 1) * (10 ** 40 - 3)),
        ]:
            with self.assertRaises(OverflowError) as caught:
                root_of(square)
            self.assertIs(type(caught.exception), TooGreat)
            self.assertEqual(caught.exception.many, many)

    def test_the_bound(self):
        self.assertEqual(root_of((ROOTS, 1)), ((1000, 1), NO, 1))
        self.assertEqual(root_of((1, ROOTS)), ((1, 1000), NO, 1))
        self.assertEqual(root_of((1000, 999)), (NO, (10, 333), 1110))


class Signs(unittest.TestCase):
    def test_alike_signs_and_noughts(self):
        for root, sign in [
            ((NO, NO, 1), 0), (((1, 9), NO, 1), 1), (((-1, 9), NO, 1), -1), ((NO, (1, 9), 2), 1), ((NO, (-1, 9), 2), -1),
            (((1, 2), (1, 3), 5), 1), (((-1, 2), (-1, 3), 5), -1),
        ]:
            self.assertEqual(root_sign(root), sign)
            self.assertIs(type(root_sign(root)), int)

    def test_contrary_signs(self):
        for root, sign in [
            (((7, 5), (-1, 1), 2), -1), (((-7, 5), (1, 1), 2), 1), (((3, 2), (-1, 1), 2), 1), (((-3, 2), (1, 1), 2), -1),
            (((1000, 1), (-1, 1), HIGHEST), 1), (((-1000, 1), (1, 1), HIGHEST), -1), (((999, 1), (-1, 1), HIGHEST), -1),
        ]:
            self.assertEqual(root_sign(root), sign)

    def test_very_near_to_nought(self):
        for under in [2, 3, 10, 999983, HIGHEST]:
            for bottom in [10 ** 38, 3 ** 80, 7 ** 40]:
                low = isqrt(under * bottom * bottom)
                self.assertEqual(root_sign((frac(-low, bottom), YES, under)), 1)
                self.assertEqual(root_sign((frac(-low - 1, bottom), YES, under)), -1)
                self.assertEqual(root_sign((frac(low, bottom), (-1, 1), under)), -1)
                self.assertEqual(root_sign((frac(low + 1, bottom), (-1, 1), under)), 1)

    def test_by_whole_numbers(self):
        parts = [NO, YES, (-1, 1), (3, 2), (-7, 5), (17, 12), (-99, 70)]
        for a, b, under in product(parts, parts[1:], [2, 3, 5, 6, 7]):
            low = scaled((a, b, under), 30)
            self.assertEqual(root_sign((a, b, under)), 1 if low > 0 else -1)


class Less(unittest.TestCase):
    def both(self, low, high):
        self.assertIs(is_less(low, high), True, (low, high))
        self.assertIs(is_less(high, low), False, (low, high))

    def test_alike_ones_are_never_less(self):
        for root in SOME:
            self.assertIs(is_less(root, root), False)
            self.assertIs(is_less(root, (root[0], root[1], root[2])), False)

    def test_all_pairs(self):
        for one, other in product(SOME, SOME):
            if one == other:
                continue
            gap = scaled(one, 120) - scaled(other, 120)
            self.assertGreater(abs(gap), 5)
            self.assertIs(is_less(one, other), gap < 0, (one, other))

    def test_one_under(self):
        self.both((YES, YES, 2), (YES, (3, 2), 2))
        self.both(((-99, 70), (2, 1), 2), (NO, YES, 2))
        self.both((NO, YES, 2), ((-41, 29), (2, 1), 2))
        self.both(((-3, 1), (3, 1), 2), ((-3, 2), (2, 1), 2))
        self.both((YES, NO, 1), ((3, 2), NO, 1))

    def test_unlike_unders(self):
        self.both((NO, YES, 2), (NO, YES, 3))
        self.both((NO, (-1, 1), 3), (NO, (-1, 1), 2))
        self.both((NO, (2, 1), 3), (NO, YES, 13))
        self.both((YES, YES, 2), (NO, YES, 6))
        self.both(((1, 1), NO, 1), (NO, YES, 2))
        self.both((NO, (-1, 1), HIGHEST), (NO, YES, 2))
        self.both(((-5, 1), YES, 2), ((5, 1), (-1, 1), 3))

    def test_a_and_b_of_contrary_signs(self):
        self.both(((3, 1), (-1, 1), 5), ((-1, 1), (1, 1), 5))
        self.both(((5, 1), (-3, 1), 2), ((-5, 1), (4, 1), 3))
        self.both(((2, 1), (-1, 1), 3), ((-1, 1), (1, 1), 2))
        self.both(((1, 1), (-1, 1), 2), ((2, 1), (-1, 1), 3))

    def test_differing_by_very_little(self):
        bottom = 10 ** 38
        for left, right in [(2, 3), (3, 2), (5, 7), (999983, HIGHEST), (HIGHEST, 2), (10, 11)]:
            for b, c in [(1, 1), (3, -2), (-3, 2), (-1, -5)]:
                wide = scaled((NO, (b, 1), left), 78) - scaled((NO, (c, 1), right), 78)
                low = wide // 10 ** 40
                self.both((frac(low, bottom), (c, 1), right), (NO, (b, 1), left))
                self.both((NO, (b, 1), left), (frac(low + 1, bottom), (c, 1), right))

    def test_against_fractions_by_very_little(self):
        bottom = 3 ** 83
        for under in [2, 3, 5, 6, 7, HIGHEST]:
            low = isqrt(under * bottom * bottom)
            self.both((frac(low, bottom), NO, 1), (NO, YES, under))
            self.both((NO, YES, under), (frac(low + 1, bottom), NO, 1))

    def test_great_parts(self):
        great = 10 ** 40 - 1
        self.both(((-great, 1), (great, 1), 2), ((-great, 1), (great, 1), 3))
        self.both(((great, great - 2), NO, 1), ((great, great - 2), (1, great), 2))
        self.both((NO, (1, great), 2), (NO, (1, great), 3))


class Texts(unittest.TestCase):
    def test_as_written(self):
        for root, text in [
            ((NO, NO, 1), "0"), (((-1, 2), NO, 1), "-1/2"), ((NO, (-3, 2), 5), "-3/2r5"), ((NO, YES, 2), "1r2"),
            (((1, 2), (-3, 2), 5), "1/2 -3/2r5"), (((-7, 1), (2, 1), HIGHEST), "-7 2r999997"),
        ]:
            self.assertEqual(root_text(root), text)
            self.assertEqual(root_in(text), root)

    def test_there_and_back(self):
        for root in SOME:
            self.assertEqual(root_in(root_text(root)), root)
        long = 7 ** 8000
        for root in [((long, 3), (-1, long), 2), ((1, long), NO, 1), (NO, (long, 2), 3)]:
            self.assertEqual(root_in(root_text(root)), root)

    def test_refused(self):
        for text in [
            "", " ", "1r1", "2 3r1", "1r4", "1 1r8", "1r12", "1r999999", "1r1000000", "1r1000001", "1r1000003",
            "1 1r1000003", "1r" + "9" * 100, "1r" + "9" * 5000, "0 1r2", "0 -3/2r5", "0r2", "1 0r2", "0r1", "1 0r1", "0 0", "0 1",
            "1 0", "1 2", "1r", "r2", "r", "1 r2", "1 1r", "1 ", " 1", "1  1r2", "1 1r2 ", " 1r2", "1r2 ", " 1 1r2", "1 1 1r2",
            "1 1r2 1", "1r2 1", "1r2 1r3", "1r2r3", "1 r", "-r2", "1r-2", "1r0", "1r02", "1r+2", "1r2/1", "1r4/2", "1r5/2",
            "01r2", "2/4r2", "1/1r2", "-0r2", "+1r2", "1/0r2", "2/4 1r2", "01 1r2", "-0 1r2", "1/1 1r2", "1R2", "1 r 2", "1r 2",
            "1 1r2\n", "1r2\n", "1\n1r2", "1\t1r2", "1_0r2", "1r1_0", "a", "ar2", "a 1r2", "1rb", "1r\u0662", "\u0661r2", "3/1",
            "6/4", "3/-4", "-0", "01", "(0, 1)", "1,1r2", "1r2,1",
        ]:
            with self.assertRaises(ValueError) as caught:
                root_in(text)
            self.assertIs(type(caught.exception), BadText, text)
            self.assertEqual(caught.exception.text, text)

    def test_only_the_text_of_one(self):
        signs = "-0123/r "
        many = 0
        for code in range(len(signs) ** 5):
            text = "".join(signs[code // len(signs) ** k % len(signs)] for k in range(5))
            try:
                told = root_in(text)
            except BadText:
                continue
            many += 1
            self.assertIs(is_root(told), True)
            self.assertEqual(root_text(told), text)
        self.assertGreater(many, 500)


class Handing(unittest.TestCase):
    def test_by_names(self):
        self.assertIs(is_root((NO, YES, 2)), True)
        self.assertEqual(rooted(a=NO, b=YES, many=8), (NO, (2, 1), 2))
        self.assertEqual(rooted(many=9, b=YES, a=YES), ((4, 1), NO, 1))
        self.assertEqual(root_of(square=(1, 2)), (NO, (1, 2), 2))
        self.assertEqual(root_sign(root=(NO, (-1, 1), 2)), -1)
        self.assertIs(is_less(one=(NO, YES, 2), other=(NO, YES, 3)), True)
        self.assertIs(is_less(other=(NO, YES, 2), one=(NO, YES, 3)), False)
        self.assertEqual(root_text(root=(YES, YES, 2)), "1 1r2")
        self.assertEqual(root_in(text="1 1r2"), (YES, YES, 2))

    def test_nothing_is_changed_and_all_is_told_again(self):
        things = [[YES, (1, 2), 5], (YES, [1, 2], 5), ([1, 1], YES, [5])]
        shown = repr(things)
        for thing in things:
            self.assertIs(is_root(thing), False)
            self.assertIs(is_root(thing), False)
        self.assertEqual(repr(things), shown)
        for one, other in zip(SOME, SOME[1:]):
            before = repr((one, other))
            self.assertIs(is_less(one, other), is_less(one, other))
            self.assertEqual(root_text(one), root_text(one))
            self.assertEqual(rooted(one[0], one[1], 12), rooted(one[0], one[1], 12))
            self.assertEqual(repr((one, other)), before)

    def test_tuples_are_told(self):
        for told in [rooted(YES, YES, 8), rooted(YES, NO, 2), root_of((1, 2)), root_of((4, 9)), root_in("1"), root_in("1 2r3")]:
            self.assertIs(type(told), tuple)
            self.assertEqual([type(part) for part in told], [tuple, tuple, int])

    def test_no_other_refusal(self):
        kinds = [thing for thing in vars(errors).values() if isinstance(thing, type)]
        for call, kind in [
            (lambda: rooted(NO, YES, ROOTS + 1), TooGreat), (lambda: root_of((-1, 1)), NoRoot),
            (lambda: root_of((ROOTS + 1, 1)), TooGreat), (lambda: root_in("x"), BadText), (lambda: root_in("x y"), BadText),
        ]:
            with self.assertRaises(kind) as caught:
                call()
            self.assertEqual([one for one in kinds if isinstance(caught.exception, one)], [kind])


if __name__ == "__main__":
    unittest.main()
