"""Promise 1 on single sheets: (a) to (d), and of (e) that cells are those of the strokes; the interface; promise 3 on one sheet."""

import inspect
import unittest
from fractions import Fraction

from making import (
    Chance, all_of, built, can_be_kept, changed, dot, fractions, loose, q, rows_told, rows_told_by, values,
)
from pegwishes import (
    boards, cells, deeds, desk, errors, firm, fracs, hangs, lots, measures, near, roots, rows, sheets, stories, strokes, styles, texts, wishes,
)
from pegwishes.boards import Board
from pegwishes.deeds import done
from pegwishes.errors import Clash
from pegwishes.rules import HIGH, WIDE
from pegwishes.sheets import Sheet

INTERFACE = {
    wishes: ["bad_part(sheet, thing)", "is_wish(sheet, thing)"],
    rows: ["rows_of(sheet, wish)", "rows_by(sheet)", "keeps(rows, numbers)", "holds(sheet, wish)"],
    lots: ["lot_of(sheet, wish)", "lot_paper(sheet, wish)", "shows_lot(sheet, wish, names, thing)"],
    near: ["nearest(sheet, wish)", "near_paper(sheet, wish)", "shows_near(sheet, wish, numbers, thing)"],
    firm: [
        "ways(sheet, path)", "firm_paper(sheet, path)", "sway_of(sheet, path)", "shows_firm(sheet, path, thing)",
        "shows_sway(sheet, path, thing)", "held_by(sheet, path)",
    ],
    hangs: ["hangs_of(sheet, path)", "hangs_by(sheet, wish)", "knots(sheet)"],
    deeds: ["done(sheet, deed)"],
    measures: ["gap(sheet, one, other)", "length(sheet, path)", "meets(sheet, one, other)"],
    styles: ["style_of(sheet, path)"],
    strokes: ["strokes(sheet)", "strokes_text(strokes)", "strokes_in(text)"],
    cells: [
        "marks(stroke, cell)", f"cells(sheet, *, left=0, low=0, wide={WIDE}, high={HIGH})",
        f"cells_of(strokes, *, left=0, low=0, wide={WIDE}, high={HIGH})", "at_cell(sheet, cell)", "led_by(sheet, cell)",
    ],
    fracs: [
        "is_frac(thing)", "frac(top, bottom=1)", "plus(one, other)", "minus(one, other)", "times(one, other)", "over(one, other)",
        "sign_of(one)", "floor_of(one)", "frac_text(one)", "frac_in(text)",
    ],
    texts: ["sheet_text(sheet)", "sheet_in(text)", "deed_text(deed)", "deed_in(text)"],
    stories: ["told_story(deeds)", "shows_story(thing)", f"page(story, *, left=0, low=0, wide={WIDE}, high={HIGH})"],
    desk: ["answers(text)"],
    roots: [
        "is_root(thing)", "rooted(a, b, many)", "root_of(square)", "root_sign(root)", "is_less(one, other)", "root_text(root)",
        "root_in(text)",
    ],
}
BOARD = [
    "new(self, name)", "drop(self, name)", "copy(self, name, other)", "put(self, name, deed)", "do(self, deeds)", "undo(self)", "redo(self)",
    "names(self)", "sheet(self, name)", "deeds(self)", "as_of(self, many)", "twin(self)", "log(self)", "is_open(self)",
]
METHODS = ["figures(self)", "numbers(self)", "kind(self, path)", "place(self, path)", "wishes(self)", "styles(self)"]


class Interface(unittest.TestCase):
    def test_functions_stand_in_their_files(self):
        for file, rows_of_names in INTERFACE.items():
            for row in rows_of_names:
                name = row.partition("(")[0]
                call = getattr(file, name)
                self.assertEqual(call.__module__, file.__name__)
                self.assertEqual(name + str(inspect.signature(call)), row)

    def test_classes(self):
        for kind, file, methods in [(Sheet, sheets, METHODS), (Board, boards, BOARD)]:
            self.assertEqual(kind.__module__, file.__name__)
            self.assertEqual(str(inspect.signature(kind)), "()")
            for row in methods:
                name = row.partition("(")[0]
                self.assertEqual(name + str(inspect.signature(vars(kind)[name])), row)
            for name in ["__len__", "__eq__", "__repr__"]:
                self.assertIn(name, vars(kind))


def walks(seed, many, steps):
    """Sheets, deeds and what came of them, by chance."""
    chance = Chance(seed)
    for _ in range(many):
        sheet = chance.sheet(5)
        for at in range(steps):
            places = [figure[1] for figure in sheet.figures() if figure[0] in ("tray", "peg")]
            told = chance.dice.choice([
                ("move", chance.dice.choice(places), chance.number(), chance.number()), ("wish", "z" + "abcdefgh"[at], chance.wish(sheet)),
                ("wish", "z" + "abcdefgh"[at], chance.wish(sheet)),
            ])
            try:
                after = done(sheet, told)
            except Clash as caught:
                yield sheet, told, None, caught.lot
                continue
            yield sheet, told, after, None
            sheet = after


def last_of(told):
    return told[2] if told[0] == "wish" else ("pin", *told[1:])


class Kept(unittest.TestCase):
    def test_a_nearest_of_all_and_a_paper_shows_it(self):
        for sheet, told, after, lot in walks(31, 12, 5):
            if after is None:
                continue
            each = last_of(told)
            numbers = fractions(values(after))
            lines = rows_told_by(sheet) + rows_told(sheet, each)
            for shares, right in rows_told_by(after) + lines:
                self.assertEqual(dot(shares, numbers), right)
            own = fractions(values(sheet))
            change = [new - old for new, old in zip(numbers, own)]
            for more in loose([shares for shares, _ in lines], len(own)):
                for many in [Fraction(1), Fraction(-1, 3)]:
                    other = [one + many * two for one, two in zip(change, more)]
                    self.assertGreater(dot(other, other), dot(change, change))
            paper = near.near_paper(sheet, each)
            self.assertIs(near.shows_near(sheet, each, values(after), paper), True)

    def test_b_refused_with_a_lot_each_needed(self):
        many = 0
        for sheet, told, after, lot in walks(32, 40, 5):
            each = last_of(told)
            kept = can_be_kept(rows_told_by(sheet) + rows_told(sheet, each))
            self.assertIs(after is None, not kept)
            if after is None:
                many += 1
                self.assertIs(lots.shows_lot(sheet, each, lot, lots.lot_paper(sheet, each)), True)
        self.assertGreater(many, 10)

    def test_c_no_number_changes_but_those_that_hang_on_it(self):
        for sheet, told, after, lot in walks(33, 15, 5):
            if after is None:
                continue
            hung = hangs.hangs_by(sheet, last_of(told))
            if told[0] == "move":
                self.assertEqual(hung, hangs.hangs_of(sheet, told[1]))
            for old, new in zip(sheet.numbers(), after.numbers()):
                self.assertTrue(old == new or old[:2] in hung)
            for name, _ in after.wishes():
                self.assertEqual(done(after, ("unwish", name)).numbers(), after.numbers())

    def test_c_hands_at_one_place(self):
        for sheet, told, after, lot in walks(34, 12, 5):
            if after is None or told[0] != "move":
                continue
            back = ("move", told[1], *sheet.place(told[1]))
            self.assertEqual(done(after, back), sheet)
            try:
                other = done(sheet, ("move", told[1], (1, 3), (-7, 2)))
            except Clash:
                continue
            self.assertEqual(done(after, ("move", told[1], (1, 3), (-7, 2))), other)

    def test_d_firm_or_it_may_sway_never_both(self):
        for sheet, told, after, lot in walks(35, 4, 3):
            for figure in sheet.figures():
                if figure[0] == "string":
                    continue
                path = figure[1]
                paper, changes = firm.firm_paper(sheet, path), firm.sway_of(sheet, path)
                shown = (firm.shows_firm(sheet, path, paper), firm.shows_sway(sheet, path, changes))
                self.assertEqual(shown, (firm.ways(sheet, path) == 0, firm.ways(sheet, path) != 0))
                self.assertEqual((paper is None, changes is None), shown[::-1])

    def test_e_printings_show_one_sheet(self):
        for sheet, told, after, lot in walks(36, 4, 2):
            told = strokes.strokes(sheet)
            text = strokes.strokes_text(told)
            self.assertEqual(strokes.strokes_in(text), told)
            shown = cells.cells(sheet, left=-6, low=-6)
            self.assertEqual(cells.cells_of(told, left=-6, low=-6), shown)
            for y, row in zip(range(HIGH - 7, -7, -1), shown):
                for x, sign in zip(range(-6, WIDE - 6), row):
                    paths = cells.at_cell(sheet, (x, y))
                    self.assertEqual(sign, styles.style_of(sheet, paths[0])[0] if paths else ".")


class Greatest(unittest.TestCase):
    """A sheet of 20 numbers, 8 strings, 10 rules and as many of 10 wishes as can be kept."""

    def sheet(self):
        told = ["tray t 1 1", "tray t.u 1 2", "tray v -3 0"]
        told += ["peg a 0 0", "peg t.b 4 1", "peg t.u.c 2 3", "peg v.d 1 5", "peg e 7 2"]
        told += ["string s" + one + " " + ends for one, ends in zip("abcdefgh", [
            "a t.b", "t.b t.u.c", "t.u.c v.d", "v.d a", "e a", "e t.b", "e v.d", "a t.u.c",
        ])]
        told += ["hoop ha a 2", "hoop hb t.b 1", "hoop t.hc e 3", "hoop v.hd v.d -1"]
        told += ["style kind peg layer 9", "style kind hoop ink q", "style in t ink w", "style in t.u ink z", "style at e ink x"]
        told += ["style at sa shown no", "style at sb layer 3", "style in v layer 1", "style at v.hd ink n", "style kind string ink r"]
        return built(*told)

    WISHES = [
        ("part", "t.b", "a", "e", (10 ** 40 - 1, 10 ** 40 - 3)), ("turn", "a", "t.b", "t.u.c", "v.d"), ("side", "ha", "north", "v.d"),
        ("big", "hb", "ha", (-7, 10 ** 40 - 9)), ("mirror", "a", "e", "t.u.c"), ("reach", "t.hc", (10 ** 40 - 1, 7)),
        ("off", "t", "t.u", (1, 3), (2, 3)), ("like", "a", "t.u.c", "t.b", "e"), ("pin", "a", (1, 7), (10 ** 39, 3)), ("level", "t.b", "v.d"),
    ]

    def test_all_of_it_is_answered(self):
        sheet = self.sheet()
        self.assertEqual((len(sheet.numbers()), len(sheet.styles())), (20, 10))
        for at, each in enumerate(self.WISHES):
            kept = can_be_kept(rows_told_by(sheet) + rows_told(sheet, each))
            try:
                after = done(sheet, ("wish", "w" + "abcdefghij"[at], each))
            except Clash as caught:
                self.assertFalse(kept)
                self.assertIs(lots.shows_lot(sheet, each, caught.lot, lots.lot_paper(sheet, each)), True)
                continue
            self.assertTrue(kept)
            self.assertIs(near.shows_near(sheet, each, values(after), near.near_paper(sheet, each)), True)
            sheet = after
        self.assertGreater(len(sheet.wishes()), 6)
        self.assertIs(rows.keeps(rows.rows_by(sheet), values(sheet)), True)
        for figure in sheet.figures():
            if figure[0] != "string":
                told = (firm.firm_paper(sheet, figure[1]), firm.sway_of(sheet, figure[1]))
                self.assertEqual([one is None for one in told].count(True), 1)
            hangs.hangs_of(sheet, figure[1])
        self.assertEqual(len(cells.cells(sheet, wide=40, high=30)), 30)
        told = strokes.strokes(sheet)
        self.assertEqual(strokes.strokes_in(strokes.strokes_text(told)), told)
        for cell in [(0, 0), (1, 1), (2, 1)]:
            self.assertEqual([path for path, _ in cells.led_by(sheet, cell)], cells.at_cell(sheet, cell))

    def test_moves_one_behind_the_other(self):
        sheet = built("peg a 0 0", "peg b 1 0", "peg c 2 0", "wish p part b a c 1/3", "wish q level a c")
        for at in range(20):
            x, y = Fraction(10 ** 40 - 1 - at, at + 1), Fraction(at, 10 ** 40 - 1)
            sheet = done(sheet, ("move", "abc"[at % 3], q(x), q(y)))
        self.assertIs(rows.keeps(rows.rows_by(sheet), values(sheet)), True)


class Refusals(unittest.TestCase):
    def test_each_is_of_its_own_class_alone(self):
        kinds = [kind for kind in vars(errors).values() if isinstance(kind, type)]
        sheet = built("peg a 0 0", "peg b 1 0", "wish w pin a 0 0", "hoop h a 1", "hoop k a 1")
        for call, kind in [
            (lambda: done(sheet, ("peg", "A", q(0), q(0))), errors.BadPath), (lambda: done(sheet, ("peg", "a", q(0), q(0))), errors.Known),
            (lambda: done(sheet, ("hoop", "g", "x", q(0))), errors.NoFigure), (lambda: done(sheet, ("wish", "v", None)), errors.BadWish),
            (lambda: done(sheet, ("move", "a", q(1), q(0))), errors.Clash), (lambda: done(sheet, ("unwish", "v")), errors.NoWish),
            (lambda: done(sheet, ("style", "x")), errors.BadStyle), (lambda: done(sheet, ("unstyle", 0)), errors.NoStyle),
            (lambda: measures.meets(sheet, "h", "k"), errors.Along), (lambda: strokes.strokes_in("x"), errors.BadRow),
            (lambda: measures.gap(changed(sheet, "move b 2000 0"), "a", "b"), errors.TooGreat),
        ]:
            before = all_of(sheet)
            with self.assertRaises(kind) as caught:
                call()
            self.assertEqual([one for one in kinds if isinstance(caught.exception, one)], [kind])
            self.assertEqual(all_of(sheet), before)


if __name__ == "__main__":
    unittest.main()
