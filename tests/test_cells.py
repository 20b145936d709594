"""Promise 16: cells."""

import unittest
from fractions import Fraction
from math import ceil, floor

from making import Chance, all_of, built, changed, q, qs
from pegwishes.cells import at_cell, cells, cells_of, led_by, marks
from pegwishes.firm import held_by
from pegwishes.strokes import strokes, strokes_in, strokes_text


def stroke(text):
    """The stroke of a row without path and ink, such as `hoop 0 0 3/2`."""
    kind, *words = text.split()
    values = qs(" ".join(words))
    if kind == "string":
        return (kind, "s", "s", tuple(values[:2]), tuple(values[2:]))
    return (kind, "a", "o", tuple(values[:2]), *values[2:])


def marked(text, low=-4, high=6):
    """All cells from low to below high that a stroke marks."""
    told = stroke(text)
    found = []
    for x in range(low, high):
        for y in range(low, high):
            answer = marks(told, (x, y))
            assert type(answer) is bool
            if answer:
                found.append((x, y))
    return found


def cells_by_cuts(a, b):
    """The cells of all places of a string, got by cutting it where it goes from one cell to another."""
    cuts = {Fraction(0), Fraction(1)}
    for k in (0, 1):
        if a[k] != b[k]:
            low, high = sorted([a[k], b[k]])
            cuts |= {(n - a[k]) / (b[k] - a[k]) for n in range(ceil(low), floor(high) + 1)}
    cuts = sorted(cuts)
    shares = cuts + [(one + other) / 2 for one, other in zip(cuts, cuts[1:])]
    return {tuple(floor(a[k] + share * (b[k] - a[k])) for k in (0, 1)) for share in shares}


def cells_by_corners(place, r, low, high):
    found = set()
    for x in range(low, high):
        for y in range(low, high):
            far = [(x + i - place[0]) ** 2 + (y + j - place[1]) ** 2 > r * r for i in (0, 1) for j in (0, 1)]
            if any(far) and not all(far):
                found.add((x, y))
    return found


class Pegs(unittest.TestCase):
    def test_the_floors(self):
        for text, cell in [
            ("peg 0 0", (0, 0)), ("peg 1/2 1/3", (0, 0)), ("peg 3 2", (3, 2)), ("peg -1/2 1/2", (-1, 0)), ("peg -1 -1", (-1, -1)),
            ("peg -7/3 5/2", (-3, 2)), ("peg 99/100 1", (0, 1)), ("peg -1/100 -101/100", (-1, -2)),
        ]:
            self.assertEqual(marked(text), [cell])


class Strings(unittest.TestCase):
    def test_along_edges(self):
        self.assertEqual(marked("string 0 1 2 1"), [(0, 1), (1, 1), (2, 1)])
        self.assertEqual(marked("string 1 0 1 2"), [(1, 0), (1, 1), (1, 2)])
        self.assertEqual(marked("string 1 -1 1 -1/2"), [(1, -1)])
        self.assertEqual(marked("string 2 1 0 1"), [(0, 1), (1, 1), (2, 1)])

    def test_through_corners(self):
        self.assertEqual(marked("string 0 0 2 2"), [(0, 0), (1, 1), (2, 2)])
        self.assertEqual(marked("string 0 2 2 0"), [(0, 1), (0, 2), (1, 0), (1, 1), (2, 0)])
        self.assertEqual(marked("string 1/2 3/2 3/2 1/2"), [(0, 1), (1, 0), (1, 1)])
        self.assertEqual(marked("string -1/2 -1/2 1/2 1/2"), [(-1, -1), (0, 0)])

    def test_ends_count(self):
        self.assertEqual(marked("string 1/2 1/2 1 1/2"), [(0, 0), (1, 0)])
        self.assertEqual(marked("string 1/2 1/2 99/100 1/2"), [(0, 0)])
        self.assertEqual(marked("string 1 1/2 1/2 1/2"), [(0, 0), (1, 0)])
        self.assertEqual(marked("string 3/2 1 3/2 1/2"), [(1, 0), (1, 1)])
        self.assertEqual(marked("string 1/2 1/2 1 1"), [(0, 0), (1, 1)])
        self.assertEqual(marked("string 1/2 3/2 1 1"), [(0, 1), (1, 1)])

    def test_of_one_place(self):
        self.assertEqual(marked("string 1 1 1 1"), [(1, 1)])
        self.assertEqual(marked("string -1/2 3/2 -1/2 3/2"), [(-1, 1)])

    def test_aslant(self):
        self.assertEqual(marked("string 0 0 3 1"), [(0, 0), (1, 0), (2, 0), (3, 1)])
        self.assertEqual(marked("string 0 1/2 3 3/2"), [(0, 0), (1, 0), (1, 1), (2, 1), (3, 1)])
        self.assertEqual(marked("string -2 -1/2 1 -1/2"), [(-2, -1), (-1, -1), (0, -1), (1, -1)])

    def test_by_chance(self):
        chance = Chance(20)
        for _ in range(150):
            ends = [chance.number() for _ in range(4)]
            a, b = ([Fraction(*one) for one in pair] for pair in (ends[:2], ends[2:]))
            told = ("string", "s", "s", tuple(ends[:2]), tuple(ends[2:]))
            found = {(x, y) for x in range(-8, 9) for y in range(-8, 9) if marks(told, (x, y))}
            self.assertEqual(found, cells_by_cuts(a, b), told)
            back = ("string", "s", "s", tuple(ends[2:]), tuple(ends[:2]))
            self.assertTrue(all(marks(back, cell) for cell in found))


class Hoops(unittest.TestCase):
    def test_within_one_cell(self):
        self.assertEqual(marked("hoop 1/2 1/2 1/3"), [])
        self.assertEqual(marked("hoop 1/2 1/2 -7/10"), [])
        self.assertEqual(marked("hoop 1/2 1/2 0"), [])

    def test_through_corners(self):
        self.assertEqual(marked("hoop 0 0 0"), [(-1, -1), (-1, 0), (0, -1), (0, 0)])
        self.assertEqual(marked("hoop 1/2 1/2 0"), [])
        self.assertEqual(
            marked("hoop 0 0 1"),
            [(-2, -1), (-2, 0), (-1, -2), (-1, -1), (-1, 0), (-1, 1), (0, -2), (0, -1), (0, 0), (0, 1), (1, -1), (1, 0)],
        )
        self.assertEqual(marked("hoop 0 0 99/100"), [(-1, -1), (-1, 0), (0, -1), (0, 0)])

    def test_r_below_nought(self):
        self.assertEqual(marked("hoop 1 1 -2"), marked("hoop 1 1 2"))

    def test_what_is_wholly_inside_or_outside(self):
        found = marked("hoop 0 0 3")
        for cell in [(0, 0), (-1, -1), (1, 1), (3, 3), (-4, -4), (5, 0)]:
            self.assertNotIn(cell, found)
        for cell in [(2, 0), (2, 2), (3, 0), (-4, 0), (-4, -1), (0, 3), (1, 2)]:
            self.assertIn(cell, found)

    def test_by_chance(self):
        chance = Chance(21)
        for _ in range(150):
            x, y, r = (chance.number() for _ in range(3))
            told = ("hoop", "h", "c", (x, y), r)
            found = {(k, n) for k in range(-14, 14) for n in range(-14, 14) if marks(told, (k, n))}
            place = (Fraction(*x), Fraction(*y))
            self.assertEqual(found, cells_by_corners(place, Fraction(*r), -14, 14))
            # What a window shows is all of it.
            rows = cells_of([told], left=-14, low=-14, wide=28, high=28)
            shown = {(k - 14, 13 - n) for n, row in enumerate(rows) for k, sign in enumerate(row) if sign == "c"}
            self.assertEqual(shown, found)


SHEET = built(
    "tray t 1 1", "peg a 1 1", "peg t.b 5 3", "string s a t.b", "hoop h a 3", "style at a layer 3", "style at h ink z", "peg c -2 0",
)


DRAWN = [
    "...........",
    "...zz....s.",
    ".zzzzzzss..",
    ".z...szs...",
    "zz..oszz...",
    "zo....zz...",
    ".z....z....",
    ".zzzzzz....",
    "...zz......",
]


class Windows(unittest.TestCase):
    def test_left_out(self):
        told = cells(SHEET)
        self.assertEqual(len(told), 12)
        self.assertEqual({len(row) for row in told}, {24})
        self.assertEqual(told, cells(SHEET, left=0, low=0, wide=24, high=12))
        self.assertEqual(told[-5:], [row[3:] + "." * 16 for row in DRAWN[1:6]])
        self.assertEqual(told[:7], ["." * 24] * 7)
        self.assertEqual(cells_of(strokes(SHEET)), told)

    def test_as_drawn(self):
        self.assertEqual(cells(SHEET, left=-3, low=-3, wide=11, high=9), DRAWN)

    def test_some_left_out(self):
        self.assertEqual(cells(SHEET, left=-3), cells(SHEET, left=-3, low=0, wide=24, high=12))
        self.assertEqual(cells(SHEET, low=-3), cells(SHEET, left=0, low=-3, wide=24, high=12))
        self.assertEqual(cells(SHEET, wide=5), cells(SHEET, left=0, low=0, wide=5, high=12))
        self.assertEqual(cells(SHEET, high=5), cells(SHEET, left=0, low=0, wide=24, high=5))

    def test_any_window_is_part_of_the_whole(self):
        for left in range(-3, 8, 2):
            for low in range(-3, 6):
                for wide in (1, 3):
                    for high in (1, 2):
                        if left + wide <= 8 and low + high <= 6:
                            told = [row[left + 3:left + 3 + wide] for row in DRAWN[6 - low - high:6 - low]]
                            self.assertEqual(cells(SHEET, left=left, low=low, wide=wide, high=high), told)

    def test_one_wide_one_high(self):
        self.assertEqual(cells(SHEET, left=1, low=1, wide=1, high=1), ["o"])
        self.assertEqual(cells(SHEET, left=-99, low=-99, wide=1, high=1), ["."])
        self.assertEqual(cells(SHEET, left=-2, low=0, wide=1, high=1), ["o"])
        self.assertEqual(cells(SHEET, left=-3, low=1, wide=11, high=1), [DRAWN[4]])
        self.assertEqual(cells(SHEET, left=6, low=-3, wide=1, high=9), [row[9] for row in DRAWN])

    def test_the_greatest(self):
        sheet = built("peg a 0 0", "peg b 39 29", "string s a b", "hoop h a 20", "peg c 38 1/2", "hoop k c 35/3")
        told = cells(sheet, wide=40, high=30)
        self.assertEqual((len(told), {len(row) for row in told}), (30, {40}))
        for row, y in zip(told, range(29, -1, -1)):
            for x, sign in enumerate(row):
                inks = [one[2] for one in strokes(sheet) if marks(one, (x, y))]
                self.assertEqual(sign, inks[-1] if inks else ".")

    def test_at_the_ends(self):
        sheet = built("peg a -99 -99", "peg b 138 128")
        self.assertEqual(cells(sheet, left=-99, low=-99, wide=40, high=30)[-1], "o" + "." * 39)
        self.assertEqual(cells(sheet, left=99, low=99, wide=40, high=30)[0], "." * 39 + "o")

    def test_none(self):
        self.assertEqual(cells(built(), wide=3, high=2), ["...", "..."])
        self.assertEqual(cells_of([], wide=3, high=2), ["...", "..."])
        self.assertEqual(cells(built("tray t 0 0"), wide=1, high=1), ["."])
        self.assertEqual(cells(built("peg a 0 0", "style at a shown no"), wide=1, high=1), ["."])

    def test_of_great_numbers(self):
        big = 10 ** 40 - 1
        sheet = changed(built("peg a 0 0"), ("peg", "b", (big, 1), (big, 1)), "string s a b", ("hoop", "h", "b", (big, 1)))
        told = cells(sheet, wide=5, high=5)
        self.assertEqual([row[k] for k, row in enumerate(told[::-1])], ["s"] * 5)
        self.assertEqual("".join(told).count("."), 20)
        sheet = changed(built("peg a 0 0"), ("peg", "b", (1, big), (-1, big)), ("hoop", "h", "b", (big, 3)))
        self.assertEqual(cells(sheet, low=-1, wide=1, high=2), ["o", "o"])

    def test_the_last_stroke_covers(self):
        rows = ["peg a 0 0", "peg b 0 0", "style at a ink x", "style at b ink y"]
        for more, ink in [([], "y"), (["style at a layer 1"], "x"), (["style at a layer 1", "style at b layer 1"], "y"),
                          (["style at b shown no"], "x")]:
            self.assertEqual(cells(built(*rows, *more), wide=1, high=1), [ink])

    def test_of_strokes_and_of_sheets(self):
        chance = Chance(22)
        for _ in range(12):
            sheet = chance.sheet(4)
            if chance.dice.random() < 0.5:
                sheet = changed(sheet, "style kind peg layer 2", "style in ta shown no", "style kind hoop ink q")
            window = {"left": -9, "low": -9, "wide": 18, "high": 18}
            told = cells(sheet, **window)
            self.assertEqual(cells_of(strokes(sheet), **window), told)
            self.assertEqual(cells_of(strokes_in(strokes_text(strokes(sheet))), **window), told)
            for row, y in zip(told, range(8, -10, -1)):
                for x, sign in zip(range(-9, 9), row):
                    inks = [one[2] for one in strokes(sheet) if marks(one, (x, y))]
                    self.assertEqual(sign, inks[-1] if inks else ".")

    def test_of_strokes_in_their_order(self):
        told = strokes_in("peg a x 0 0\npeg b y 0 0")
        self.assertEqual(cells_of(told, wide=1, high=1), ["y"])
        self.assertEqual(cells_of(told[::-1], wide=1, high=1), ["x"])
        self.assertEqual(cells_of(tuple(told), left=0, low=0, wide=1, high=1), ["y"])


LED = built(
    "tray t 1 1", "peg a 0 0", "peg b 4 0", "peg t.c 0 0", "string s a b", "hoop h a 4", "peg free 4 0",
    "wish one side h east b", "wish two pin a 0 0", "wish three reach h 4", "wish four pin t.c 1 1",
)


class AtCells(unittest.TestCase):
    def test_the_last_one_first(self):
        self.assertEqual(at_cell(SHEET, (1, 1)), ["a", "s"])
        self.assertEqual(at_cell(SHEET, (6, 4)), ["s", "t.b"])
        self.assertEqual(at_cell(SHEET, (-2, 0)), ["c", "h"])
        self.assertEqual(at_cell(SHEET, (50, 50)), [])
        self.assertEqual(at_cell(LED, (4, 0)), ["free", "h", "s", "b"])
        self.assertEqual(at_cell(built(), (0, 0)), [])

    def test_by_layers(self):
        self.assertEqual(at_cell(changed(LED, "style at b layer 1"), (4, 0)), ["b", "free", "h", "s"])
        self.assertEqual(at_cell(changed(LED, "style kind hoop shown no"), (4, 0)), ["free", "s", "b"])

    def test_trays_mark_none(self):
        self.assertEqual(at_cell(LED, (1, 1)), ["t.c"])

    def test_a_list_may_be_the_cell(self):
        self.assertEqual(at_cell(LED, [1, 1]), ["t.c"])
        self.assertIs(marks(("peg", "a", "o", (q(1), q(1))), [1, 1]), True)


class LedBy(unittest.TestCase):
    def test_each_with_the_wishes_that_hold_it(self):
        told = led_by(LED, (4, 0))
        self.assertEqual(told, [
            ("free", []), ("h", ["two", "three"]), ("s", ["one", "two", "three"]), ("b", ["one", "two", "three"]),
        ])
        self.assertIs(type(told), list)
        for pair in told:
            self.assertIs(type(pair), tuple)
            self.assertIs(type(pair[1]), list)
        self.assertEqual(led_by(LED, (1, 1)), [("t.c", ["four"])])
        self.assertEqual(led_by(LED, (50, 50)), [])

    def test_of_a_string_of_one_or_of_the_other_peg(self):
        sheet = built("peg a 0 0", "peg b 2 0", "string s b a", "wish z pin b 2 0", "wish y pin a 0 0")
        self.assertEqual(led_by(sheet, (1, 0)), [("s", ["z", "y"])])
        self.assertEqual(led_by(changed(sheet, "unwish z"), (1, 0)), [("s", ["y"])])
        self.assertEqual(led_by(changed(sheet, "unwish y"), (1, 0)), [("s", ["z"])])

    def test_of_a_hoop_of_its_peg_or_of_its_r(self):
        sheet = built("peg a 0 0", "hoop h a 2", "wish z reach h 2", "wish y pin a 0 0")
        self.assertEqual(led_by(sheet, (1, 1)), [("h", ["z", "y"])])
        self.assertEqual(led_by(changed(sheet, "unwish z"), (1, 1)), [("h", ["y"])])
        self.assertEqual(led_by(changed(sheet, "unwish y"), (1, 1)), [("h", ["z"])])

    def test_a_hoop_called_like_nothing_else(self):
        sheet = built("peg a 0 0", "peg b 3 0", "hoop h a 2", "hoop k b 2", "wish z big h k 1", "wish y reach k 2")
        self.assertEqual(led_by(sheet, (-2, 0)), [("h", ["z", "y"])])
        self.assertEqual(led_by(sheet, (4, 0)), [("k", ["y"])])

    def test_by_chance(self):
        chance = Chance(23)
        for _ in range(6):
            sheet = chance.sheet(9)
            for cell in [(0, 0), (1, -1), (-2, 3)]:
                figures = {figure[1]: figure for figure in sheet.figures()}
                told = []
                for path in at_cell(sheet, cell):
                    parts = {"peg": [path], "string": figures[path][2:], "hoop": [path, figures[path][-1]]}
                    names = [name for part in parts[figures[path][0]] for name in held_by(sheet, part)]
                    told.append((path, [name for name, _ in sheet.wishes() if name in names]))
                self.assertEqual(led_by(sheet, cell), told)


class Handing(unittest.TestCase):
    def test_by_names(self):
        told = strokes(SHEET)
        self.assertIs(marks(stroke=told[0], cell=(1, 1)), marks(told[0], (1, 1)))
        self.assertEqual(cells(sheet=SHEET, high=1, wide=2, low=1, left=0), [".o"])
        self.assertEqual(cells_of(strokes=told, high=1, wide=2, low=1, left=0), [".o"])
        self.assertEqual(at_cell(sheet=SHEET, cell=(1, 1)), ["a", "s"])
        self.assertEqual(led_by(sheet=LED, cell=(1, 1)), [("t.c", ["four"])])

    def test_windows_by_name_alone(self):
        with self.assertRaises(TypeError):
            cells(SHEET, 0)
        with self.assertRaises(TypeError):
            cells_of(strokes(SHEET), 0)

    def test_nothing_is_changed_and_all_is_told_again(self):
        before = all_of(LED)
        told = strokes(LED)
        kept = list(told)
        cells_of(told)
        self.assertEqual(told, kept)
        for ask in [lambda: cells(LED), lambda: cells_of(told), lambda: at_cell(LED, (4, 0)), lambda: led_by(LED, (4, 0))]:
            answer = ask()
            shown = repr(answer)
            self.assertIs(type(answer), list)
            answer.clear()
            self.assertEqual(repr(ask()), shown)
        led_by(LED, (4, 0))[1][1].clear()
        self.assertEqual(led_by(LED, (4, 0))[1], ("h", ["two", "three"]))
        self.assertEqual(all_of(LED), before)


if __name__ == "__main__":
    unittest.main()
