"""Promise 13: deeds of a sheet."""

import unittest
from fractions import Fraction

from making import Chance, all_of, built, can_be_kept, changed, deed, q, qs, rows_told, rows_told_by, shown, values, wish
from pegwishes.deeds import done
from pegwishes.errors import BadPath, BadStyle, BadWish, Clash, Known, NoFigure, NoStyle, NoWish
from pegwishes.near import nearest
from pegwishes.rows import keeps, rows_by
from pegwishes.sheets import Sheet
from pegwishes.wishes import bad_part
from things import ODD

SHEET = built(
    "tray t 1 1", "tray t.u 1 1", "tray v 0 0", "peg a 0 0", "peg b 4 0", "peg t.c 2 4", "peg t.u.d 3 3", "peg t.e 0 1",
    "string s a b", "string t.s t.c t.u.d", "string r a t.c", "hoop h a 2", "hoop t.h t.c 3", "hoop t.u.k b 1",
    "wish one off a b 4 0", "wish two reach h 2", "wish three level t.c t.u.d",
    "style kind peg ink p", "style in t ink t", "style at s layer 3", "style at t.s shown no",
)
NO_PATHS = [
    "", ".", "A", "a b", " a", "a ", "a.", ".a", "a..b", "a.b.c.d", "abcdefghi", "t.abcdefghi", "a1", "1", "a-b", "a_b",
    "a\n", "\u00e9", "t.\u00e9", "a/b", "t.u.D", "\u0430", "a,b", "T",
]
NO_TRAYS = ["z.a", "a.b", "s.a", "h.a", "t.z.a", "t.c.a", "t.u.d.x", "z.u.a", "u.a", "tt.a", "t.s.a", "t.h.a"]


class Case(unittest.TestCase):
    def refused(self, row, kind, **field):
        told = deed(row) if isinstance(row, str) else row
        before = all_of(SHEET)
        with self.assertRaises(kind) as caught:
            done(SHEET, told)
        self.assertIs(type(caught.exception), kind, row)
        for name, value in field.items():
            self.assertEqual(getattr(caught.exception, name), value, row)
            self.assertIs(type(getattr(caught.exception, name)), type(value), row)
        self.assertEqual(all_of(SHEET), before)

    def same_but(self, after, figures=None, numbers=None, wishes=None, styles=None):
        """Whether a sheet is as SHEET but for what is given."""
        self.assertIs(type(after), Sheet)
        self.assertEqual(after.figures(), SHEET.figures() if figures is None else figures)
        self.assertEqual(after.numbers(), SHEET.numbers() if numbers is None else numbers)
        self.assertEqual(after.wishes(), SHEET.wishes() if wishes is None else wishes)
        self.assertEqual(after.styles(), SHEET.styles() if styles is None else styles)


class Figures(Case):
    ROWS = ["tray {} 1 2", "peg {} 1 2", "string {} a b", "hoop {} a 3"]

    def test_each_comes_last_with_its_numbers(self):
        for row, figure, numbers in [
            ("tray w 1/2 -3", ("tray", "w"), [("w", "x", q("1/2")), ("w", "y", q(-3))]),
            ("tray t.w 0 0", ("tray", "t.w"), [("t.w", "x", q(0)), ("t.w", "y", q(0))]),
            ("peg p 7 8", ("peg", "p"), [("p", "x", q(7)), ("p", "y", q(8))]),
            ("peg t.u.abcdefgh 7 8", ("peg", "t.u.abcdefgh"), [("t.u.abcdefgh", "x", q(7)), ("t.u.abcdefgh", "y", q(8))]),
            ("string z b a", ("string", "z", "b", "a"), []),
            ("string t.z a t.u.d", ("string", "t.z", "a", "t.u.d"), []),
            ("hoop g t.c -1/3", ("hoop", "g", "t.c"), [("g", "r", q("-1/3"))]),
            ("hoop v.g a 0", ("hoop", "v.g", "a"), [("v.g", "r", q(0))]),
        ]:
            after = changed(SHEET, row)
            self.same_but(after, SHEET.figures() + [figure], SHEET.numbers() + numbers)

    def test_on_the_bare_sheet(self):
        self.assertEqual(changed(Sheet(), "tray a 1 2").figures(), [("tray", "a")])
        self.assertEqual(Sheet(), built())

    def test_no_path(self):
        for path in NO_PATHS:
            self.refused(("tray", path, q(1), q(2)), BadPath, path=path)
            self.refused(("peg", path, q(1), q(2)), BadPath, path=path)
            self.refused(("string", path, "a", "b"), BadPath, path=path)
            self.refused(("hoop", path, "a", q(1)), BadPath, path=path)

    def test_tray_not_there(self):
        for path in NO_TRAYS:
            for row in self.ROWS:
                self.refused(row.format(path), BadPath, path=path)

    def test_known(self):
        for _, path, *_ in SHEET.figures():
            for row in self.ROWS:
                self.refused(row.format(path), Known, name=path)

    def test_pegs_that_are_none(self):
        for path in ["", "z", "t", "t.u", "s", "h", "t.z", "A", "a ", "v"]:
            self.refused(("string", "z", path, "b"), NoFigure, path=path)
            self.refused(("string", "z", "a", path), NoFigure, path=path)
            self.refused(("hoop", "z", path, q(1)), NoFigure, path=path)

    def test_the_first_peg_that_is_none(self):
        self.refused("string z x y", NoFigure, path="x")
        self.refused("string z t s", NoFigure, path="t")
        self.refused("string z x x", NoFigure, path="x")
        self.refused("string z a x", NoFigure, path="x")

    def test_one_again(self):
        self.refused("string z a a", NoFigure, path="a")
        self.refused("string z t.c t.c", NoFigure, path="t.c")

    def test_the_refusal_told_first(self):
        self.refused("string A x y", BadPath, path="A")
        self.refused("string z.z a a", BadPath, path="z.z")
        self.refused("string s x y", Known, name="s")
        self.refused("hoop t x 1", Known, name="t")
        self.refused("hoop a.h x 1", BadPath, path="a.h")
        self.refused("string a a a", Known, name="a")


class Remove(Case):
    def left(self, path, gone, wishes, styles):
        after = changed(SHEET, "remove " + path)
        gone = gone.split()
        self.same_but(
            after, [figure for figure in SHEET.figures() if figure[1] not in gone],
            [number for number in SHEET.numbers() if number[0] not in gone],
            [pair for pair in SHEET.wishes() if pair[0] in wishes.split()],
            [rule for at, rule in enumerate(SHEET.styles()) if at in styles],
        )

    def test_a_string_alone(self):
        self.left("r", "r", "one two three", [0, 1, 2, 3])
        self.left("s", "s", "one two three", [0, 1, 3])

    def test_a_hoop_with_its_wishes(self):
        self.left("h", "h", "one three", [0, 1, 2, 3])
        self.left("t.h", "t.h", "one two three", [0, 1, 2, 3])

    def test_a_peg_with_its_strings_hoops_and_wishes(self):
        self.left("a", "a s r h", "three", [0, 1, 3])
        self.left("b", "b s t.u.k", "two three", [0, 1, 3])
        self.left("t.c", "t.c t.s r t.h", "one two", [0, 1, 2])
        self.left("t.u.d", "t.u.d t.s", "one two", [0, 1, 2])
        self.left("t.e", "t.e", "one two three", [0, 1, 2, 3])

    def test_a_tray_with_all_within(self):
        self.left("t", "t t.u t.c t.u.d t.e t.s r t.h t.u.k", "one two", [0, 2])
        self.left("t.u", "t.u t.u.d t.s t.u.k", "one two", [0, 1, 2])
        self.left("v", "v", "one two three", [0, 1, 2, 3])

    def test_what_only_begins_like_it_stays(self):
        sheet = built("tray t 0 0", "tray tt 0 0", "peg t.a 0 0", "peg tt.a 0 0", "tray t.c 0 0")
        self.assertEqual(changed(sheet, "remove t").figures(), [("tray", "tt"), ("peg", "tt.a")])

    def test_words_are_no_paths(self):
        sheet = built(
            "peg east 0 0", "peg peg 5 0", "peg a 2 0", "peg b 2 0", "peg side 1 1", "hoop h a 0", "peg kind 0 0", "peg level 0 0",
            "wish w side h east b", "wish v level a b", "wish side pin a 2 0", "style kind peg ink q", "style at peg ink r",
        )
        after = changed(sheet, "remove east", "remove peg", "remove level", "remove side", "remove kind")
        self.assertEqual([name for name, _ in after.wishes()], ["w", "v", "side"])
        self.assertEqual(after.styles(), [("kind", "peg", "ink", "q")])

    def test_every_path_that_a_wish_names(self):
        rows = ["tray t 0 0", "peg a 0 0", "peg b 0 0", "peg c 0 0", "hoop h a 0", "hoop k c 0"]
        for text, named in [
            ("pin a 0 0", "a"), ("level t a", "t a"), ("plumb a t", "a t"), ("off a b 0 0", "a b"), ("part a b c 3", "a b c"),
            ("like a b c t", "a b c t"), ("turn a b c t", "a b c t"), ("mirror a b t", "a b t"), ("reach h 0", "h a"),
            ("big h k 1", "h k a c"), ("side h east b", "h b a"), ("side k north a", "k a c"),
        ]:
            sheet = built(*rows, "wish w " + text)
            for path in ["t", "a", "b", "c", "h", "k"]:
                told = changed(sheet, "remove " + path).wishes()
                self.assertEqual(told, [] if path in named.split() else sheet.wishes(), (text, path))

    def test_no_number_changes(self):
        after = changed(SHEET, "remove h")
        for number in after.numbers():
            self.assertIn(number, SHEET.numbers())

    def test_no_figure(self):
        for path in NO_PATHS + ["z", "t.z", "u", "peg", "one", "t.u.d.x"]:
            self.refused(("remove", path), NoFigure, path=path)


class Stamp(Case):
    def test_all_within_called_anew(self):
        sheet = built(
            "tray t 1 2", "peg a 0 0", "peg t.a 3 4", "tray t.u 5 6", "peg t.u.b 7 8", "string t.s t.a t.u.b", "hoop t.u.h t.a 9",
            "string t.r t.a a", "string s t.a t.u.b", "hoop t.h a 1", "hoop h t.a 2", "string t.u.v t.u.b t.a",
        )
        after = changed(sheet, "stamp t z")
        self.assertEqual(after.figures(), sheet.figures() + [
            ("tray", "z"), ("peg", "z.a"), ("tray", "z.u"), ("peg", "z.u.b"), ("string", "z.s", "z.a", "z.u.b"),
            ("hoop", "z.u.h", "z.a"), ("string", "z.u.v", "z.u.b", "z.a"),
        ])
        self.assertEqual(after.numbers(), sheet.numbers() + [
            ("z", "x", q(1)), ("z", "y", q(2)), ("z.a", "x", q(3)), ("z.a", "y", q(4)), ("z.u", "x", q(5)), ("z.u", "y", q(6)),
            ("z.u.b", "x", q(7)), ("z.u.b", "y", q(8)), ("z.u.h", "r", q(9)),
        ])
        self.assertEqual(after.place("z.u.b"), sheet.place("t.u.b"))

    def test_no_wishes_and_no_rules(self):
        after = changed(SHEET, "stamp t.u w")
        self.same_but(
            after, SHEET.figures() + [("tray", "w"), ("peg", "w.d")],
            SHEET.numbers() + [("w", "x", q(1)), ("w", "y", q(1)), ("w.d", "x", q(3)), ("w.d", "y", q(3))],
        )

    def test_within_another_tray(self):
        after = changed(SHEET, "stamp t.u v.w")
        self.assertEqual(after.figures()[-2:], [("tray", "v.w"), ("peg", "v.w.d")])
        after = changed(SHEET, "stamp t.u t.w")
        self.assertEqual(after.figures()[-2:], [("tray", "t.w"), ("peg", "t.w.d")])
        self.assertEqual(after.place("t.w.d"), SHEET.place("t.u.d"))
        after = changed(SHEET, "stamp v t.u.w")
        self.assertEqual(after.figures()[-1], ("tray", "t.u.w"))

    def test_what_begins_like_the_tray_does_not_come(self):
        sheet = built("tray t 0 0", "tray tt 0 0", "peg tt.a 0 0", "peg t.b 0 0")
        self.assertEqual(changed(sheet, "stamp t z").figures()[4:], [("tray", "z"), ("peg", "z.b")])
        self.assertEqual(changed(sheet, "stamp t ttt").figures()[4:], [("tray", "ttt"), ("peg", "ttt.b")])

    def test_no_tray(self):
        for path in ["", "z", "a", "s", "h", "t.c", "t.z", "A", "t.", "u"]:
            for other in ["w", "a", "A", "t.w", ""]:
                self.refused(("stamp", path, other), NoFigure, path=path)

    def test_bad_paths(self):
        for path in NO_PATHS + NO_TRAYS:
            self.refused(("stamp", "v", path), BadPath, path=path)

    def test_within_itself(self):
        self.refused("stamp t t.w", BadPath, path="t.w")
        self.refused("stamp t t.c", BadPath, path="t.c")
        self.refused("stamp t t.u", BadPath, path="t.u")
        self.refused("stamp t t.u.w", BadPath, path="t.u.w")
        self.refused("stamp v v.w", BadPath, path="v.w")
        self.refused("stamp t.u t.u.w", BadPath, path="t.u.w")

    def test_a_fourth_name(self):
        self.refused("stamp t v.w", BadPath, path="v.w")
        self.refused("stamp t.u v.w.x", BadPath, path="v.w.x")
        sheet = changed(SHEET, "tray v.w 0 0")
        for row, path in [("stamp t.u v.w.x", "v.w.x"), ("stamp t v.w", "v.w")]:
            with self.assertRaises(BadPath) as caught:
                changed(sheet, row)
            self.assertEqual(caught.exception.path, path)
        self.assertEqual(changed(sheet, "stamp v.w t.u.x").figures()[-1], ("tray", "t.u.x"))

    def test_only_what_comes_counts_for_a_fourth_name(self):
        sheet = built("tray t 0 0", "tray t.u 0 0", "peg a 0 0", "peg b 0 0", "tray v 0 0", "string t.u.s a b", "hoop t.u.h a 1")
        self.assertEqual(changed(sheet, "stamp t v.w").figures()[7:], [("tray", "v.w"), ("tray", "v.w.u")])

    def test_known(self):
        for path in ["t", "v", "a", "s", "h", "t.c", "t.h"]:
            self.refused("stamp v " + path, Known, name=path)
        self.refused("stamp t t", Known, name="t")
        self.refused("stamp t.u t.u", Known, name="t.u")

    def test_the_refusal_told_first(self):
        self.refused("stamp a a", NoFigure, path="a")
        self.refused("stamp z A", NoFigure, path="z")
        self.refused("stamp t t.c", BadPath, path="t.c")
        sheet = changed(SHEET, "tray v.w 0 0")
        with self.assertRaises(BadPath):
            changed(sheet, "stamp t v.w")

    def test_alike_numbers_move_apart(self):
        after = changed(SHEET, "stamp t w", "move w 50 50")
        self.assertEqual(after.place("t.c"), SHEET.place("t.c"))
        self.assertEqual(after.place("w.c"), tuple(qs("52 54")))


class Wish(Case):
    def test_comes_last_with_the_nearest(self):
        told = wish("off b t.c 1 0")
        after = changed(SHEET, "wish four off b t.c 1 0")
        numbers = [(path, axis, new) for (path, axis, _), new in zip(SHEET.numbers(), nearest(SHEET, told))]
        self.same_but(after, numbers=numbers, wishes=SHEET.wishes() + [("four", told)])

    def test_known_by_hand(self):
        after = built("peg a 0 0", "peg b 4 2", "wish w level a b")
        self.assertEqual(shown(after), "0 1 4 1")
        self.assertEqual(shown(changed(after, "wish v pin a 1 2")), "1 2 4 2")

    def test_already_kept(self):
        self.same_but(
            changed(SHEET, "wish four off b a -4 0"), wishes=SHEET.wishes() + [("four", wish("off b a -4 0"))],
        )

    def test_known(self):
        for name in ["one", "two", "three"]:
            self.refused(f"wish {name} pin a 0 0", Known, name=name)

    def test_names_of_figures_are_free(self):
        self.assertEqual(changed(SHEET, "wish a pin a 0 0").wishes()[-1], ("a", wish("pin a 0 0")))

    def test_bad_wish(self):
        for told in [
            ("pin", "z", q(0), q(0)), ("pin", "a", (2, 4), q(0)), ("pin", "a", q(0), 0), ("level", "a", "a"), ("level", "a"),
            ("like", "a", "b", "a", "b"), ("reach", "a", q(1)), ["pin", "a", q(0), q(0)], ("nothing", "a"), None, "pin a 0 0",
        ] + ODD:
            self.refused(("wish", "four", told), BadWish, part=bad_part(SHEET, told))

    def test_clash(self):
        self.refused("wish four off a b 5 0", Clash, lot=["one"])
        self.refused("wish four reach h 3", Clash, lot=["two"])

    def test_the_refusal_told_first(self):
        self.refused(("wish", "one", None), Known, name="one")
        self.refused("wish one off a b 5 0", Known, name="one")
        self.refused(("wish", "four", ("off", "a", "b", q(5), (0, 2))), BadWish, part=4)


class Unwish(Case):
    def test_goes_and_no_number_changes(self):
        for at, name in enumerate(["one", "two", "three"]):
            wishes = SHEET.wishes()
            del wishes[at]
            self.same_but(changed(SHEET, "unwish " + name), wishes=wishes)

    def test_no_wish(self):
        for name in ["", "four", "a", "One", "one "]:
            with self.assertRaises(KeyError):
                done(SHEET, ("unwish", name))
            self.refused(("unwish", name), NoWish, name=name)


class Move(Case):
    def test_the_nearest_of_a_pin_that_does_not_stay(self):
        for row in ["a 7 8", "b 1/2 -3", "t 5 5", "t.c 0 0", "t.u.d 1 1", "v 9 9", "t.u 0 1"]:
            told = wish("pin " + row)
            numbers = [(path, axis, new) for (path, axis, _), new in zip(SHEET.numbers(), nearest(SHEET, told))]
            after = changed(SHEET, "move " + row)
            self.same_but(after, numbers=numbers)
            self.assertEqual(after.place(told[1]), (told[2], told[3]))
            self.assertIs(keeps(rows_by(after), values(after)), True)

    def test_draws_the_rest(self):
        sheet = built("peg a 0 0", "peg b 4 0", "peg c 9 9", "wish w off a b 4 0")
        self.assertEqual(shown(changed(sheet, "move b 5 1")), "1 1 5 1 9 9")
        self.assertEqual(changed(sheet, "move b 5 1").wishes(), sheet.wishes())

    def test_a_peg_within_a_tray_draws_the_tray(self):
        sheet = built("tray t 0 0", "peg t.a 1 1", "peg t.b 2 2")
        self.assertEqual(shown(changed(sheet, "move t.a 3 5")), "1 2 2 3 2 2")

    def test_a_tray_draws_what_is_within(self):
        after = changed(SHEET, "move t 11 11")
        self.assertEqual(after.place("t.c"), tuple(qs("13 15")))
        self.assertEqual(after.place("t.u.d"), tuple(q(Fraction(*one) + 10) for one in SHEET.place("t.u.d")))

    def test_no_tray_or_peg(self):
        for path in NO_PATHS + ["z", "s", "h", "t.s", "t.h", "t.z"]:
            self.refused(("move", path, q(0), q(0)), NoFigure, path=path)

    def test_clash(self):
        sheet = built("peg a 0 0", "peg b 1 0", "wish w off a b 1 0", "wish v level a b", "wish u pin a 0 0")
        before = all_of(sheet)
        for row, lot in [("move a 1 1", ["u"]), ("move b 2 0", ["w", "u"]), ("move b 1 1", ["v", "u"])]:
            with self.assertRaises(Clash) as caught:
                changed(sheet, row)
            self.assertEqual(caught.exception.lot, lot)
        self.assertEqual(all_of(sheet), before)
        self.assertEqual(changed(sheet, "move b 1 0"), sheet)

    def test_away_and_back(self):
        self.assertEqual(changed(SHEET, "move t.c 30 -7/2", "move t.c 3 5"), SHEET)
        self.assertEqual(changed(SHEET, "move t.c 30 -7/2", "move t.c 8 1/9"), changed(SHEET, "move t.c 8 1/9"))


class Style(Case):
    def test_comes_last(self):
        for row in ["kind hoop layer 9", "in t.u shown yes", "at t.u.d ink z", "kind peg ink p"]:
            rule = deed("style " + row)[1:]
            after = done(SHEET, ("style", *rule))
            self.same_but(after, styles=SHEET.styles() + [rule])
            self.assertIs(type(after.styles()[-1]), tuple)

    def test_bad_style(self):
        for rule, spot in [
            (("all", "peg", "ink", "a"), 0), (("kind", "tray", "ink", "a"), 1), (("kind", "peg", "inks", "a"), 2),
            (("kind", "peg", "ink", "A"), 3), (("kind", "peg", "ink"), 0), (("kind", "peg", "ink", "a", "b"), 0), ((), 0),
        ]:
            self.refused(("style", *rule), BadStyle, spot=spot)

    def test_unstyle(self):
        for spot in range(4):
            styles = SHEET.styles()
            del styles[spot]
            self.same_but(done(SHEET, ("unstyle", spot)), styles=styles)

    def test_no_style(self):
        for spot in [4, 5, 10, 10 ** 30]:
            with self.assertRaises(LookupError) as caught:
                done(SHEET, ("unstyle", spot))
            self.assertIs(type(caught.exception), NoStyle)
            self.assertNotIsInstance(caught.exception, (KeyError, IndexError))
            self.refused(("unstyle", spot), NoStyle, spot=spot)
        with self.assertRaises(NoStyle):
            done(Sheet(), ("unstyle", 0))
        self.refused(("unstyle", -1), NoStyle, spot=-1)


class Kept(Case):
    def test_a_sheet_told_keeps_all_its_wishes(self):
        chance = Chance(17)
        for _ in range(15):
            sheet = chance.sheet(5)
            for _ in range(6):
                places = [figure[1] for figure in sheet.figures() if figure[0] in ("tray", "peg")]
                deeds = [("move", chance.dice.choice(places), chance.number(), chance.number()), ("wish", "z", chance.wish(sheet))]
                deeds += [("unwish", name) for name, _ in sheet.wishes()[:1]] + [("remove", places[-1])] * (len(places) > 7)
                told = chance.dice.choice(deeds)
                last = {"move": ("pin", *told[1:]), "wish": told[-1]}.get(told[0])
                free = last is None or can_be_kept(rows_told_by(sheet) + rows_told(sheet, last))
                before = all_of(sheet)
                try:
                    after = done(sheet, told)
                    self.assertTrue(free)
                except Clash:
                    self.assertFalse(free)
                    after = sheet
                except Known:
                    after = sheet
                self.assertEqual(all_of(sheet), before)
                self.assertIs(keeps(rows_by(after), values(after)), True)
                sheet = after

    def test_hands_at_one_place_are_as_the_last_alone(self):
        chance = Chance(18)
        many = 0
        for _ in range(20):
            sheet = chance.sheet(5)
            path = chance.dice.choice([figure[1] for figure in sheet.figures() if figure[0] in ("tray", "peg")])
            hands = [("move", path, chance.number(), chance.number()) for _ in range(3)]
            try:
                last = done(sheet, hands[-1])
                behind = changed(sheet, *hands)
                back = changed(sheet, *hands, ("move", path, *sheet.place(path)))
            except Clash:
                continue
            many += 1
            self.assertEqual(behind, last)
            self.assertEqual(back, sheet)
        self.assertGreater(many, 5)

    def test_by_names(self):
        self.assertEqual(done(sheet=SHEET, deed=("unwish", "one")), changed(SHEET, "unwish one"))

    def test_nothing_handed_in_is_changed(self):
        for row in ["tray w 1 1", "stamp t w", "wish w pin a 0 0", "style at a ink q", "remove t", "move a 9 9", "unstyle 0"]:
            told = deed(row)
            before = all_of(SHEET)
            done(SHEET, told)
            self.assertEqual(told, deed(row))
            self.assertEqual(all_of(SHEET), before)
            self.assertEqual(done(SHEET, told), done(SHEET, told))

    def test_told_sheets_stand_apart(self):
        one = changed(SHEET, "peg z 1 1")
        other = changed(one, "peg y 1 1")
        self.assertEqual(len(one) + 1, len(other))
        self.assertEqual(one, changed(SHEET, "peg z 1 1"))


if __name__ == "__main__":
    unittest.main()
