"""Promise 14: lengths and meeting places."""

import unittest
from fractions import Fraction

from making import Chance, all_of, built, changed, q
from pegwishes.errors import Along, NoFigure, TooGreat
from pegwishes.measures import gap, length, meets
from pegwishes.roots import is_less, is_root, root_in, root_of, root_text

SHEET = built(
    "tray t 1 1", "peg t.a 0 0", "peg o 0 0", "peg b 3 4", "peg c 1/2 0", "peg d 1000 7", "string s o b", "string t.r t.a b",
    "hoop h o 2", "string z o d",
)


def texts(places):
    return [root_text(x) + ", " + root_text(y) for x, y in places]


def crossing(*rows):
    """A sheet of two shapes, s and z: `string ax ay bx by` or `hoop x y r`."""
    told = []
    for name, row in zip("sz", rows):
        kind, *numbers = row.split()
        told.append(f"peg {name}a {numbers[0]} {numbers[1]}")
        if kind == "string":
            told += [f"peg {name}b {numbers[2]} {numbers[3]}", f"string {name} {name}a {name}b"]
        else:
            told.append(f"hoop {name} {name}a {numbers[2]}")
    return built(*told)


def turned(row):
    """The string of a row the other way about, a hoop with its r below 0."""
    kind, *numbers = row.split()
    if kind == "string":
        return " ".join([kind] + numbers[2:] + numbers[:2])
    return " ".join([kind] + numbers[:2] + [str(-Fraction(numbers[2]))])


def ways_about(*rows):
    """The two shapes in all ways that tell the same."""
    for one in [rows[0], turned(rows[0])]:
        for other in [rows[1], turned(rows[1])]:
            yield crossing(one, other), "s", "z"
            yield crossing(one, other), "z", "s"


class Gaps(unittest.TestCase):
    def test_gap(self):
        for one, other, text in [
            ("o", "b", "5"), ("b", "o", "5"), ("o", "t.a", "1r2"), ("t", "t.a", "0"), ("t.a", "b", "1r13"), ("o", "o", "0"),
            ("c", "t", "1/2r5"), ("c", "o", "1/2"), ("t", "b", "1r13"),
        ]:
            self.assertEqual(gap(SHEET, one, other), root_in(text))
            self.assertIs(is_root(gap(SHEET, one, other)), True)

    def test_no_figure_of_one_then_of_other(self):
        for one, other, path in [
            ("x", "o", "x"), ("o", "x", "x"), ("x", "y", "x"), ("s", "o", "s"), ("o", "h", "h"), ("h", "s", "h"), ("", "A", ""),
            ("o", "t.z", "t.z"), ("d", "x", "x"),
        ]:
            with self.assertRaises(KeyError) as caught:
                gap(SHEET, one, other)
            self.assertIs(type(caught.exception), NoFigure)
            self.assertEqual(caught.exception.path, path)

    def test_too_great(self):
        with self.assertRaises(OverflowError) as caught:
            gap(SHEET, "o", "d")
        self.assertIs(type(caught.exception), TooGreat)
        self.assertEqual(caught.exception.many, 1000049)
        self.assertEqual(gap(built("peg a 0 0", "peg b 1000 0"), "a", "b"), root_in("1000"))
        with self.assertRaises(TooGreat) as caught:
            gap(built("peg a 0 0", "peg b 1001 0"), "a", "b")
        self.assertEqual(caught.exception.many, 1001 ** 2)
        # Of top over bottom it is top times bottom that counts.
        with self.assertRaises(TooGreat) as caught:
            gap(built("peg a 0 0", "peg b 101/10 1/3"), "a", "b")
        square = Fraction(101, 10) ** 2 + Fraction(1, 9)
        self.assertEqual(caught.exception.many, square.numerator * square.denominator)

    def test_length(self):
        self.assertEqual(length(SHEET, "s"), root_in("5"))
        self.assertEqual(length(SHEET, "t.r"), root_in("1r13"))
        self.assertEqual(length(built("peg a 1 1", "peg b 1 1", "string s a b"), "s"), root_in("0"))
        with self.assertRaises(TooGreat) as caught:
            length(SHEET, "z")
        self.assertEqual(caught.exception.many, 1000049)

    def test_length_of_no_string(self):
        for path in ["", "x", "o", "t", "h", "t.a", "t.z", "A"]:
            with self.assertRaises(NoFigure) as caught:
                length(SHEET, path)
            self.assertEqual(caught.exception.path, path)


class Case(unittest.TestCase):
    def check(self, one, other, *told):
        for sheet, first, second in ways_about(one, other):
            places = meets(sheet, first, second)
            self.assertEqual(texts(places), list(told), (one, other))
            self.assertIs(type(places), list)
            for place in places:
                self.assertIs(type(place), tuple)
                self.assertTrue(is_root(place[0]) and is_root(place[1]))

    def along(self, one, other):
        for sheet, first, second in ways_about(one, other):
            with self.assertRaises(RuntimeError) as caught:
                meets(sheet, first, second)
            self.assertIs(type(caught.exception), Along)

    def too_great(self, one, other, many):
        for sheet, first, second in ways_about(one, other):
            with self.assertRaises(OverflowError) as caught:
                meets(sheet, first, second)
            self.assertIs(type(caught.exception), TooGreat)
            self.assertEqual(caught.exception.many, many)


class Strings(Case):
    def test_cross(self):
        self.check("string 0 0 4 4", "string 0 4 4 0", "2, 2")
        self.check("string 0 0 3 1", "string 1 -1 1 1", "1, 1/3")
        self.check("string -1 0 1 0", "string 0 -1 0 1", "0, 0")

    def test_do_not_reach(self):
        self.check("string 0 0 1 1", "string 0 4 4 0")
        self.check("string 0 0 4 4", "string 0 4 1 3")
        self.check("string 0 0 1 0", "string 2 1 2 5")

    def test_touch(self):
        self.check("string 0 0 4 4", "string 4 4 9 0", "4, 4")
        self.check("string 0 0 4 4", "string 2 2 9 0", "2, 2")
        self.check("string 0 0 4 0", "string 2 0 2 5", "2, 0")
        self.check("string 0 0 2 2", "string 2 2 4 4", "2, 2")
        self.check("string 0 0 0 2", "string 0 2 0 7/2", "0, 2")

    def test_side_by_side(self):
        self.check("string 0 0 4 4", "string 0 1 4 5")
        self.check("string 0 0 4 0", "string 0 1 4 1")
        self.check("string 0 0 1 1", "string 2 2 3 3")
        self.check("string 0 0 0 1", "string 0 2 0 3")

    def test_upon_one_another(self):
        self.along("string 0 0 4 4", "string 0 0 4 4")
        self.along("string 0 0 4 4", "string 1 1 2 2")
        self.along("string 0 0 4 4", "string 3 3 9 9")
        self.along("string 0 0 4 4", "string 0 0 1 1")
        self.along("string 0 0 0 5", "string 0 1 0 2")
        self.along("string 0 0 1/3 1/2", "string 1/6 1/4 1 3/2")

    def test_of_one_place(self):
        self.check("string 1 1 1 1", "string 0 0 4 4", "1, 1")
        self.check("string 1 2 1 2", "string 0 0 4 4")
        self.check("string 5 5 5 5", "string 0 0 4 4")
        self.check("string 4 4 4 4", "string 0 0 4 4", "4, 4")
        self.check("string 4 4 4 4", "string 4 4 4 4", "4, 4")
        self.check("string 4 4 4 4", "string 4 5 4 5")

    def test_by_chance(self):
        chance = Chance(14)
        seen = {0: 0, 1: 0}
        for _ in range(80):
            ends = [(chance.dice.randint(-3, 3), chance.dice.randint(-3, 3)) for _ in range(4)]
            sheet = crossing(*["string " + " ".join(str(n) for end in ends[k:k + 2] for n in end) for k in (0, 2)])
            (a, b), (c, d) = ends[:2], ends[2:]
            steps = [
                (Fraction(a[0] * (n - k) + b[0] * k, n), Fraction(a[1] * (n - k) + b[1] * k, n))
                for n in range(1, 73) for k in range(n + 1)
            ]
            # A crossing of such strings lies at a share whose bottom is no greater than 72.
            found = {place for place in set(steps) if on_string(place, c, d)}
            if len(found) > 1:
                with self.assertRaises(Along):
                    meets(sheet, "s", "z")
                continue
            seen[len(found)] += 1
            told = [(x, q(0), 1) for place in found for x in map(q, place)]
            self.assertEqual([part for place in meets(sheet, "s", "z") for part in place], told)
        self.assertTrue(all(seen.values()))


def on_string(place, a, b):
    across = (b[0] - a[0]) * (place[1] - a[1]) - (b[1] - a[1]) * (place[0] - a[0])
    return across == 0 and min(a[0], b[0]) <= place[0] <= max(a[0], b[0]) and min(a[1], b[1]) <= place[1] <= max(a[1], b[1])


class StringsAndHoops(Case):
    def test_two_one_none(self):
        self.check("string -5 0 5 0", "hoop 0 0 2", "-2, 0", "2, 0")
        self.check("string -5 1 5 1", "hoop 0 0 2", "-1r3, 1", "1r3, 1")
        self.check("string -5 2 5 2", "hoop 0 0 2", "0, 2")
        self.check("string -5 3 5 3", "hoop 0 0 2")
        self.check("string 0 -5 0 5", "hoop 0 0 2", "0, -2", "0, 2")
        self.check("string -5 -5 5 5", "hoop 0 0 2", "-1r2, -1r2", "1r2, 1r2")
        self.check("string -5 5 5 -5", "hoop 0 0 1", "-1/2r2, 1/2r2", "1/2r2, -1/2r2")

    def test_ends_count(self):
        self.check("string 0 0 5 0", "hoop 0 0 2", "2, 0")
        self.check("string 0 0 2 0", "hoop 0 0 2", "2, 0")
        self.check("string -2 0 2 0", "hoop 0 0 2", "-2, 0", "2, 0")
        self.check("string 0 0 1 1", "hoop 0 0 2")
        self.check("string 3 0 5 0", "hoop 0 0 2")
        self.check("string -1 1/2 1 1/2", "hoop 0 0 2")
        self.check("string 0 2 5 2", "hoop 0 0 2", "0, 2")
        self.check("string 1 2 5 2", "hoop 0 0 2")
        self.check("string 0 1 5 1", "hoop 0 0 2", "1r3, 1")

    def test_aslant(self):
        self.check("string 0 0 9 12", "hoop 3 4 5", "0, 0", "6, 8")
        self.check("string 0 0 4 2", "hoop 1 2 2", "8/5 -2/5r11, 4/5 -1/5r11", "8/5 2/5r11, 4/5 1/5r11")
        self.check("string 1 1/2 4 2", "hoop 1 2 2", "8/5 2/5r11, 4/5 1/5r11")
        self.check("string -4 -2 4 2", "hoop 1 2 2", "8/5 -2/5r11, 4/5 -1/5r11", "8/5 2/5r11, 4/5 1/5r11")

    def test_of_one_place(self):
        self.check("string 3 4 3 4", "hoop 0 0 5", "3, 4")
        self.check("string 3 4 3 4", "hoop 0 0 4")
        self.check("string 3 4 3 4", "hoop 3 4 0", "3, 4")
        self.check("string 30000 4 30000 4", "hoop 0 0 100/7")

    def test_r_of_nought(self):
        self.check("string 0 0 4 4", "hoop 1 1 0", "1, 1")
        self.check("string 0 0 4 4", "hoop 4 4 0", "4, 4")
        self.check("string 0 0 4 4", "hoop 5 5 0")
        self.check("string 0 0 4 4", "hoop 1 2 0")

    def test_too_great(self):
        # D is the square of r times that of the string's length, less the square of c.
        self.too_great("string 0 0 1000 0", "hoop 0 0 2", 4000000)
        self.too_great("string 0 1 1000 1", "hoop 0 0 3/2", (Fraction(9, 4) - 1).numerator * 1000000 // 4)
        self.too_great("string 5000 0 6000 0", "hoop 0 0 2", 4000000)
        self.check("string 0 5 1000 5", "hoop 0 0 2")
        self.check("string 0 0 500 0", "hoop 0 0 2", "2, 0")
        self.too_great("string 0 0 501 0", "hoop 0 0 2", 4 * 501 ** 2)
        self.check("string 0 2 1000 2", "hoop 0 0 2", "0, 2")

    def test_too_great_by_its_bottom(self):
        sheet = crossing("string 0 0 1/7 1/11", "hoop 0 0 1/13")
        square = Fraction(1, 169) * (Fraction(1, 49) + Fraction(1, 121))
        with self.assertRaises(TooGreat) as caught:
            meets(sheet, "s", "z")
        self.assertEqual(caught.exception.many, square.numerator * square.denominator)


class Hoops(Case):
    def test_two_one_none(self):
        self.check("hoop 0 0 5", "hoop 6 0 5", "3, -4", "3, 4")
        self.check("hoop 0 0 1", "hoop 1 0 1", "1/2, -1/2r3", "1/2, 1/2r3")
        self.check("hoop 0 0 2", "hoop 5 0 3", "2, 0")
        self.check("hoop 0 0 2", "hoop 1 0 1", "2, 0")
        self.check("hoop 0 0 2", "hoop 5 0 2")
        self.check("hoop 0 0 5", "hoop 1 0 2")
        self.check("hoop 0 0 5", "hoop 0 6 5", "-4, 3", "4, 3")
        self.check("hoop 0 0 1", "hoop 1 1 1", "0, 1", "1, 0")
        self.check("hoop 0 0 2", "hoop 1 1 2", "1/2 -1/2r7, 1/2 1/2r7", "1/2 1/2r7, 1/2 -1/2r7")

    def test_about_one_place(self):
        self.check("hoop 1 1 2", "hoop 1 1 3")
        self.along("hoop 1 1 2", "hoop 1 1 2")
        self.check("hoop 1 1 0", "hoop 1 1 0", "1, 1")
        self.check("hoop 1 1 0", "hoop 1 1 2")
        self.along("hoop 1 1 2000000", "hoop 1 1 2000000")

    def test_r_of_nought(self):
        self.check("hoop 0 0 0", "hoop 3 4 5", "0, 0")
        self.check("hoop 0 0 0", "hoop 3 4 4")
        self.check("hoop 0 0 0", "hoop 3 4 0")

    def test_too_great(self):
        # D is four times the gap's square times one's r's square, less h's square.
        self.too_great("hoop 0 0 30", "hoop 30 0 30", 3 * 30 ** 4)
        self.check("hoop 0 0 24", "hoop 24 0 24", "12, -12r3", "12, 12r3")
        self.too_great("hoop 0 0 25", "hoop 25 0 25", 3 * 25 ** 4)
        self.check("hoop 0 0 100000", "hoop 200000 0 100000", "100000, 0")
        self.check("hoop 0 0 100000", "hoop 300000 0 100000")


class Rising(Case):
    def test_by_x_then_by_y(self):
        self.check("hoop 0 0 5", "hoop 0 6 5", "-4, 3", "4, 3")
        self.check("hoop 0 0 5", "hoop 6 0 5", "3, -4", "3, 4")
        self.check("string 0 -9 0 9", "hoop 1 0 2", "0, -1r3", "0, 1r3")

    def test_by_chance(self):
        chance = Chance(15)
        seen = {0: 0, 1: 0, 2: 0}
        for _ in range(250):
            rows = []
            for _ in range(2):
                kind = chance.dice.choice(["string", "hoop", "hoop"])
                rows.append(" ".join([kind] + [str(chance.dice.randint(-3, 3)) for _ in range(3 + (kind == "string"))]))
            told = None
            for sheet, first, second in ways_about(*rows):
                try:
                    places = meets(sheet, first, second)
                except Along:
                    places = "along"
                if told is None:
                    told = places
                self.assertEqual(places, told)
            if told == "along" or rows[0].startswith("string") and rows[1].startswith("string"):
                continue
            seen[len(told)] += 1
            for place in told:
                for row in rows:
                    self.assertTrue(self.has(row, place), (rows, place))
            if len(told) == 2:
                (x, y), (to_x, to_y) = told
                self.assertTrue(is_less(x, to_x) or (x == to_x and is_less(y, to_y)))
        self.assertTrue(all(many > 20 for many in seen.values()), seen)

    def has(self, row, place):
        """Whether a shape has a place of roots, by floats, which is near enough where all numbers are small."""
        kind, *numbers = row.split()
        numbers = [int(one) for one in numbers]
        x, y = (Fraction(*a) + Fraction(*b) * Fraction(under ** 0.5) for a, b, under in place)
        if kind == "hoop":
            return abs((x - numbers[0]) ** 2 + (y - numbers[1]) ** 2 - numbers[2] ** 2) < Fraction(1, 10 ** 9)
        a, b = numbers[:2], numbers[2:]
        near = Fraction(1, 10 ** 9)
        across = (b[0] - a[0]) * (y - a[1]) - (b[1] - a[1]) * (x - a[0])
        return abs(across) < near and all(
            min(a[k], b[k]) - near <= one <= max(a[k], b[k]) + near for k, one in enumerate([x, y])
        )


class Refusals(Case):
    SHEET = built("tray t 0 0", "peg t.a 0 0", "peg b 1 0", "string t.s t.a b", "hoop h b 1", "hoop k b 1", "string r b t.a")

    def test_no_figure_of_one_then_of_other(self):
        for one, other, path in [
            ("t.a", "h", "t.a"), ("h", "t.a", "t.a"), ("t", "h", "t"), ("x", "y", "x"), ("h", "", ""), ("b", "t", "b"), ("A", "h", "A"),
            ("h", "t.z", "t.z"), ("x", "x", "x"),
        ]:
            with self.assertRaises(KeyError) as caught:
                meets(self.SHEET, one, other)
            self.assertIs(type(caught.exception), NoFigure)
            self.assertEqual(caught.exception.path, path)

    def test_alike(self):
        for path in ["h", "t.s"]:
            with self.assertRaises(NoFigure) as caught:
                meets(self.SHEET, path, path)
            self.assertEqual(caught.exception.path, path)

    def test_unlike_ones_upon_one_another(self):
        for one, other in [("h", "k"), ("t.s", "r")]:
            with self.assertRaises(Along):
                meets(self.SHEET, one, other)


class Handing(unittest.TestCase):
    SHEET = crossing("string -5 1 5 1", "hoop 0 0 2")

    def test_by_names(self):
        self.assertEqual(gap(sheet=SHEET, one="o", other="b"), root_in("5"))
        self.assertEqual(length(sheet=SHEET, path="s"), root_in("5"))
        self.assertEqual(texts(meets(sheet=self.SHEET, one="s", other="z")), ["-1r3, 1", "1r3, 1"])

    def test_nothing_is_changed_and_all_is_told_again(self):
        before = all_of(self.SHEET)
        told = meets(self.SHEET, "s", "z")
        kept = list(told)
        told.clear()
        self.assertEqual(meets(self.SHEET, "s", "z"), kept)
        self.assertEqual(all_of(self.SHEET), before)

    def test_gap_is_the_root_of_its_square(self):
        self.assertEqual(gap(SHEET, "c", "b"), root_of(q(Fraction(25, 4) + 16)))
        moved = changed(SHEET, "move b 1/3 1/7")
        self.assertEqual(gap(moved, "o", "b"), root_of(q(Fraction(1, 9) + Fraction(1, 49))))


if __name__ == "__main__":
    unittest.main()
