"""Promise 15: strokes and their text."""

import unittest

from making import Chance, all_of, built, changed, q, qs
from pegwishes.errors import BadRow
from pegwishes.strokes import strokes, strokes_in, strokes_text

SHEET = built(
    "tray t 1 1", "peg b 3 -1/2", "peg t.a 1/2 0", "string t.s b t.a", "hoop h t.a -5/3", "peg c 0 0",
)
TOLD = [
    ("peg", "b", "o", (q(3), q("-1/2"))), ("peg", "t.a", "o", (q("3/2"), q(1))),
    ("string", "t.s", "s", (q(3), q("-1/2")), (q("3/2"), q(1))), ("hoop", "h", "c", (q("3/2"), q(1)), q("-5/3")),
    ("peg", "c", "o", (q(0), q(0))),
]
TEXT = "peg b o 3 -1/2\npeg t.a o 3/2 1\nstring t.s s 3 -1/2 3/2 1\nhoop h c 3/2 1 -5/3\npeg c o 0 0"
LONG = (7 ** 6000, 10 ** 5000)


class Strokes(unittest.TestCase):
    def paths(self, *rules):
        return [stroke[1] for stroke in strokes(changed(SHEET, *["style " + rule for rule in rules]))]

    def test_as_figures_stand(self):
        self.assertEqual(strokes(SHEET), TOLD)

    def test_kinds(self):
        told = strokes(SHEET)
        self.assertIs(type(told), list)
        for stroke in told:
            self.assertIs(type(stroke), tuple)
            for place in stroke[3:5 if stroke[0] == "string" else 4]:
                self.assertIs(type(place), tuple)

    def test_none(self):
        self.assertEqual(strokes(built()), [])
        self.assertEqual(strokes(built("tray t 0 0")), [])
        self.assertEqual(self.paths("kind peg shown no", "kind string shown no", "kind hoop shown no"), [])

    def test_by_layers_then_as_they_stand(self):
        self.assertEqual(self.paths("at b layer 1"), ["t.a", "t.s", "h", "c", "b"])
        self.assertEqual(self.paths("kind peg layer 9"), ["t.s", "h", "b", "t.a", "c"])
        self.assertEqual(self.paths("at b layer 5", "at c layer 2", "at h layer 5", "at t.s layer 9"), ["t.a", "c", "b", "h", "t.s"])

    def test_not_shown(self):
        self.assertEqual(self.paths("at t.a shown no"), ["b", "t.s", "h", "c"])
        self.assertEqual(self.paths("kind peg shown no", "at c shown yes"), ["t.s", "h", "c"])
        self.assertEqual(self.paths("in t shown no"), ["b", "h", "c"])

    def test_ink(self):
        told = strokes(changed(SHEET, "style at b ink x", "style kind string ink y", "style in t ink z"))
        self.assertEqual([stroke[2] for stroke in told], ["x", "z", "z", "c", "o"])

    def test_of_pegs_of_one_place_and_hoops_of_nought(self):
        sheet = built("peg a 1 1", "peg b 1 1", "string s b a", "hoop h b 0")
        one = (q(1), q(1))
        self.assertEqual(strokes(sheet), [("peg", "a", "o", one), ("peg", "b", "o", one), ("string", "s", "s", one, one), ("hoop", "h", "c", one, q(0))])


class Texts(unittest.TestCase):
    def test_a_row_for_each(self):
        self.assertEqual(strokes_text(TOLD), TEXT)
        self.assertEqual(strokes_in(TEXT), TOLD)
        self.assertEqual(strokes_text([]), "")
        self.assertEqual(strokes_in(""), [])
        self.assertEqual(strokes_text(tuple(TOLD[:1])), "peg b o 3 -1/2")

    def test_of_any_paths_in_any_order(self):
        text = "hoop z.z.z a 0 0 0\npeg a b 1 1\npeg a b 1 1\nstring abcdefgh z 0 1 2 3\nhoop z.z.z a 0 0 0"
        told = strokes_in(text)
        self.assertEqual(told, [
            ("hoop", "z.z.z", "a", tuple(qs("0 0")), q(0)), ("peg", "a", "b", tuple(qs("1 1"))), ("peg", "a", "b", tuple(qs("1 1"))),
            ("string", "abcdefgh", "z", tuple(qs("0 1")), tuple(qs("2 3"))), ("hoop", "z.z.z", "a", tuple(qs("0 0")), q(0)),
        ])
        self.assertEqual(strokes_text(told), text)
        self.assertEqual(strokes_in("\n".join(TEXT.split("\n")[::-1])), TOLD[::-1])

    def test_there_and_back(self):
        chance = Chance(16)
        for _ in range(20):
            sheet = chance.sheet(4)
            told = strokes(sheet)
            self.assertEqual(strokes_in(strokes_text(told)), told)
            self.assertEqual(strokes_text(strokes_in(strokes_text(told))), strokes_text(told))

    def test_of_any_size(self):
        told = [("hoop", "a", "c", (LONG, q(0)), q(1)), ("peg", "a", "c", (q(10 ** 40 - 1), (1, 10 ** 40 - 1)))]
        self.assertEqual(strokes_in(strokes_text(told)), told)

    def test_rows_that_are_not_so_written(self):
        rows = TEXT.split("\n")
        for bad in [
            "", " ", "peg", "tray t 1 1", "peg b o", "peg b o 3", "peg b o 3 1 1", "peg b 3 1", "peg b o 3 1 ", " peg b o 3 1",
            "peg  b o 3 1", "peg b o 3  1", "Peg b o 3 1", "pegs b o 3 1", "peg B o 3 1", "peg b. o 3 1", "peg a.b.c.d o 3 1",
            "peg abcdefghi o 3 1", "peg b O 3 1", "peg b oo 3 1", "peg b 1 3 1", "peg b . 3 1", "peg b o 6/4 1", "peg b o 3/1 1",
            "peg b o 03 1", "peg b o -0 1", "peg b o +3 1", "peg b o 3.0 1", "peg b o x 1", "peg b o 3 1r2", "peg b o 3 1/0",
            "string s s 0 0", "string s s 0 0 1", "string s s 0 0 1 1 1", "string s s 0 0 1 2/4", "hoop h c 0 0", "hoop h c 0 0 1 1",
            "hoop h c 0 0 x", "peg b o 3 1\t", "peg\tb o 3 1", "peg b o 3,1", "peg b o (3, 1)", "peg b  3 1", "peg  o 3 1",
            "string b o 3 1", "peg t.s s 0 0 1 1", "hoop b o 3 1", "stroke b o 3 1", "peg \u0430 o 1 1", "peg b o \u0661 1", "peg b \u00e9 1 1",
        ]:
            for at in range(len(rows) + 1):
                text = "\n".join(rows[:at] + [bad] + rows[at:])
                with self.assertRaises(ValueError) as caught:
                    strokes_in(text)
                self.assertIs(type(caught.exception), BadRow, bad)
                self.assertEqual(caught.exception.row, at)

    def test_one_row_alone(self):
        for text, row in [("x", 0), (" ", 0), ("\n", 0), ("peg a o 1 1\n", 1), ("\npeg a o 1 1", 0), ("peg a o 1 1\n\npeg b o 1 1", 1)]:
            with self.assertRaises(BadRow) as caught:
                strokes_in(text)
            self.assertEqual(caught.exception.row, row)

    def test_the_first_of_several(self):
        with self.assertRaises(BadRow) as caught:
            strokes_in("peg a o 1 1\npeg A o 1 1\n\nx")
        self.assertEqual(caught.exception.row, 1)

    def test_other_line_ends_are_none(self):
        for end in ["\r\n", "\r", "\x0b", "\x0c", "\x1c", "\u2028", "\x85"]:
            with self.assertRaises(BadRow) as caught:
                strokes_in("peg a o 1 1" + end + "peg b o 1 1")
            self.assertEqual(caught.exception.row, 0)


class Handing(unittest.TestCase):
    def test_by_names(self):
        self.assertEqual(strokes(sheet=SHEET), TOLD)
        self.assertEqual(strokes_text(strokes=TOLD), TEXT)
        self.assertEqual(strokes_in(text=TEXT), TOLD)

    def test_nothing_is_changed_and_all_is_told_again(self):
        before = all_of(SHEET)
        told = strokes(SHEET)
        strokes_text(told)
        self.assertEqual(told, TOLD)
        told.clear()
        self.assertEqual(strokes(SHEET), TOLD)
        told = strokes_in(TEXT)
        told.clear()
        self.assertEqual(strokes_in(TEXT), TOLD)
        self.assertEqual(all_of(SHEET), before)


if __name__ == "__main__":
    unittest.main()
