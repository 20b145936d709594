"""Promise 6: sheets."""

import unittest

from making import all_of, built, changed, q, qs, shown
from pegwishes.deeds import done
from pegwishes.errors import NoFigure
from pegwishes.sheets import Sheet
from things import ODD

NESTED = [
    "tray a 1 2", "tray aa 100 200", "tray a.b 10 20", "peg a.c 1/2 1/3", "peg a.b.c 3 4", "peg aa.b 5 6", "peg b 7 8",
    "peg aaa 9 9", "string a.s a.c b", "string t b a.b.c", "hoop a.b.h a.b.c -3/2", "hoop h b 5",
]


class Bare(unittest.TestCase):
    def test_bare(self):
        sheet = Sheet()
        self.assertEqual(all_of(sheet), ([], [], [], [], 0, "Sheet(0)"))
        self.assertIs(bool(sheet), False)

    def test_bool_is_that_of_len(self):
        self.assertIs(bool(built("peg a 0 0")), True)


class Figures(unittest.TestCase):
    def setUp(self):
        self.sheet = built(*NESTED)

    def test_figures_as_they_stand(self):
        self.assertEqual(self.sheet.figures(), [
            ("tray", "a"), ("tray", "aa"), ("tray", "a.b"), ("peg", "a.c"), ("peg", "a.b.c"), ("peg", "aa.b"),
            ("peg", "b"), ("peg", "aaa"), ("string", "a.s", "a.c", "b"), ("string", "t", "b", "a.b.c"),
            ("hoop", "a.b.h", "a.b.c"), ("hoop", "h", "b"),
        ])
        self.assertEqual(len(self.sheet), 12)
        self.assertEqual(repr(self.sheet), "Sheet(12)")

    def test_numbers_as_figures_stand(self):
        self.assertEqual(self.sheet.numbers()[:4], [
            ("a", "x", (1, 1)), ("a", "y", (2, 1)), ("aa", "x", (100, 1)), ("aa", "y", (200, 1)),
        ])
        self.assertEqual(self.sheet.numbers()[-4:], [
            ("aaa", "x", (9, 1)), ("aaa", "y", (9, 1)), ("a.b.h", "r", (-3, 2)), ("h", "r", (5, 1)),
        ])
        self.assertEqual(shown(self.sheet), "1 2 100 200 10 20 1/2 1/3 3 4 5 6 7 8 9 9 -3/2 5")

    def test_numbers_of_figures_in_another_order(self):
        sheet = built("peg a 1 2", "hoop h a 3", "tray t 4 5", "peg b 6 7", "string s b a", "hoop k b 8")
        self.assertEqual([(path, axis) for path, axis, _ in sheet.numbers()], [
            ("a", "x"), ("a", "y"), ("h", "r"), ("t", "x"), ("t", "y"), ("b", "x"), ("b", "y"), ("k", "r"),
        ])
        self.assertEqual(shown(sheet), "1 2 3 4 5 6 7 8")

    def test_kind_of_each(self):
        for figure in self.sheet.figures():
            self.assertEqual(self.sheet.kind(figure[1]), figure[0])

    def test_places(self):
        for path, place in [
            ("a", "1 2"), ("aa", "100 200"), ("a.b", "11 22"), ("a.c", "3/2 7/3"), ("a.b.c", "14 26"),
            ("aa.b", "105 206"), ("b", "7 8"), ("aaa", "9 9"),
        ]:
            self.assertEqual(self.sheet.place(path), tuple(qs(place)), path)

    def test_place_in_three(self):
        sheet = built("tray a 1/2 1", "tray a.a 1/3 1", "peg a.a.a 1/6 -2")
        self.assertEqual(sheet.place("a.a.a"), (q(1), q(0)))
        self.assertIs(type(sheet.place("a.a.a")), tuple)

    def test_none_to_four_trays(self):
        sheet = Sheet()
        for many, row in enumerate(["tray a 1 0", "tray a.a 1 0", "tray a.a.a 1 0", "tray b 9 9"]):
            self.assertEqual(len(sheet), many)
            sheet = changed(sheet, row)
        self.assertEqual(sheet.place("a.a.a"), (q(3), q(0)))
        self.assertEqual(sheet.place("b"), (q(9), q(9)))

    def test_no_such_figure(self):
        for path in [
            "", "c", "a.", ".a", "a.b.", "a.x", "b.a", "a.b.c.d", "aaaa", "A", " a", "a ", "a b", "peg", "x", "a.b.x",
            "aa.c", "a.b.c.d.e", "a..b", "1", "a\n", "..",
        ]:
            for ask in [self.sheet.kind, self.sheet.place]:
                with self.assertRaises(KeyError) as caught:
                    ask(path)
                self.assertIs(type(caught.exception), NoFigure, path)
                self.assertEqual(caught.exception.path, path)

    def test_no_place_of_strings_and_hoops(self):
        for path in ["a.s", "t", "a.b.h", "h"]:
            with self.assertRaises(NoFigure) as caught:
                self.sheet.place(path)
            self.assertEqual(caught.exception.path, path)

    def test_of_the_bare_one(self):
        for ask in [Sheet().kind, Sheet().place]:
            with self.assertRaises(NoFigure):
                ask("a")

    def test_by_names(self):
        self.assertEqual(self.sheet.kind(path="h"), "hoop")
        self.assertEqual(self.sheet.place(path="b"), (q(7), q(8)))


class Wishes(unittest.TestCase):
    def test_as_they_stand(self):
        sheet = built("peg b 0 0", "peg a 3 4", "hoop h a 2", "wish z pin b 1/2 0", "wish a reach h 2", "wish m level a b")
        self.assertEqual(sheet.wishes(), [
            ("z", ("pin", "b", (1, 2), (0, 1))), ("a", ("reach", "h", (2, 1))), ("m", ("level", "a", "b")),
        ])
        self.assertEqual(changed(sheet, "unwish a", "wish a reach h 3").wishes(), [
            ("z", ("pin", "b", (1, 2), (0, 1))), ("m", ("level", "a", "b")), ("a", ("reach", "h", (3, 1))),
        ])

    def test_styles_as_they_stand(self):
        rows = ["style kind peg ink z", "style at b layer 3", "style in t shown no", "style kind peg ink z"]
        sheet = built("tray t 0 0", "peg b 0 0", *rows)
        self.assertEqual(sheet.styles(), [
            ("kind", "peg", "ink", "z"), ("at", "b", "layer", 3), ("in", "t", "shown", "no"), ("kind", "peg", "ink", "z"),
        ])


class Alike(unittest.TestCase):
    ROWS = ["tray t 1 1", "peg a 0 0", "peg b 3 4", "string s a b", "hoop h a 2", "wish w level a b", "style at a ink q"]

    def test_the_same(self):
        one, other = built(*self.ROWS), built(*self.ROWS)
        self.assertIsNot(one, other)
        self.assertIs(one == other, True)
        self.assertIs(one != other, False)
        self.assertTrue(Sheet() == Sheet())

    def test_one_thing_otherwise(self):
        sheet = built(*self.ROWS)
        for at, row in [
            (0, "tray u 1 1"), (0, "tray t 1 2"), (1, "peg a 1 0"), (3, "string s b a"), (3, "string z a b"),
            (4, "hoop h b 2"), (4, "hoop h a -2"), (5, "wish v level a b"), (5, "wish w level b a"),
            (6, "style at b ink q"), (6, "style at a ink p"), (6, "style kind peg ink q"),
        ]:
            other = built(*self.ROWS[:at], row, *self.ROWS[at + 1:])
            self.assertIs(sheet == other, False, row)
            self.assertIs(sheet != other, True, row)

    def test_one_left_out_or_more(self):
        sheet = built(*self.ROWS)
        for other in [built(*self.ROWS[:6]), changed(sheet, "unwish w"), changed(sheet, "style at a ink q"), Sheet(),
                      changed(sheet, "remove t"), changed(sheet, "peg c 0 0")]:
            self.assertFalse(sheet == other)

    def test_another_order(self):
        pegs = built("peg a 0 0", "peg b 0 0")
        self.assertFalse(pegs == built("peg b 0 0", "peg a 0 0"))
        one = changed(pegs, "wish v level a b", "wish w plumb a b")
        self.assertFalse(one == changed(pegs, "wish w plumb a b", "wish v level a b"))
        one = changed(pegs, "style at a ink x", "style at b ink x")
        self.assertFalse(one == changed(pegs, "style at b ink x", "style at a ink x"))

    def test_same_place_by_other_numbers(self):
        self.assertFalse(built("tray t 1 0", "peg t.a 1 0") == built("tray t 2 0", "peg t.a 0 0"))

    def test_nothing_of_another_class(self):
        for thing in ODD + [Sheet, "Sheet(0)", object()]:
            self.assertIs(Sheet() == thing, False)
            self.assertIs(Sheet() != thing, True)


class Kept(unittest.TestCase):
    def test_told_lists_are_the_askers(self):
        sheet = built(*NESTED, "wish w reach h 5", "style at b ink q")
        before = all_of(sheet)
        for ask in [sheet.figures, sheet.numbers, sheet.wishes, sheet.styles]:
            told = ask()
            self.assertIs(type(told), list)
            self.assertTrue(all(type(one) is tuple for one in told))
            self.assertIsNot(told, ask())
            told.append("x")
            told[0] = None
            told.clear()
            self.assertEqual(all_of(sheet), before)

    def test_stays_as_it_was(self):
        sheet = built(*NESTED, "wish w reach h 5", "style at b ink q")
        before = all_of(sheet)
        changed(sheet, "peg z 1 1", "remove a", "move b 100 100", "unwish w", "unstyle 0", "stamp aa zz")
        self.assertEqual(all_of(sheet), before)
        self.assertEqual(sheet, built(*NESTED, "wish w reach h 5", "style at b ink q"))

    def test_a_deed_keeps_no_hold_of_what_it_was_given(self):
        given = ("peg", "a", (1, 2), (3, 4))
        sheet = done(Sheet(), given)
        self.assertEqual(given, ("peg", "a", (1, 2), (3, 4)))
        self.assertEqual(sheet.numbers(), [("a", "x", (1, 2)), ("a", "y", (3, 4))])

    def test_asking_is_told_again(self):
        sheet = built(*NESTED)
        self.assertEqual(all_of(sheet), all_of(sheet))
        self.assertEqual(sheet.place("a.b.c"), sheet.place("a.b.c"))


class Bounds(unittest.TestCase):
    def test_all_of_it(self):
        rows = ["tray a 1 1", "tray a.a 1 1", "tray b 1 1", "tray b.b 0 0"]
        rows += [f"peg {name} {at} 0" for at, name in enumerate(["a.p", "a.a.p", "b.p", "p"])]
        rows += [f"string s{one} {pair}" for one, pair in zip("abcdefgh", ["p a.p", "p b.p", "a.p p", "a.a.p p"] * 2)]
        rows += [f"hoop h{one} p {at}" for at, one in enumerate("abcd")]
        sheet = built(*rows)
        self.assertEqual(len(sheet), 20)
        self.assertEqual(len(sheet.numbers()), 20)

    def test_numbers_at_the_ends(self):
        big = 10 ** 40 - 1
        sheet = done(done(Sheet(), ("tray", "t", (big, 10 ** 40 - 2), (-big, 1))), ("peg", "t.a", (1, big), (-big, 1)))
        self.assertEqual(sheet.place("t.a")[1], (-2 * big, 1))
        self.assertEqual(sheet.place("t.a")[0], (big * big + big - 1, (big - 1) * big))


if __name__ == "__main__":
    unittest.main()
