"""Promise 12: what hangs together."""

import unittest

from making import Chance, all_of, built, changed, deed, rows_told, values, wish
from pegwishes.deeds import done
from pegwishes.errors import Clash, NoFigure
from pegwishes.hangs import hangs_by, hangs_of, knots

SHEET = built(
    "peg a 0 0", "peg b 5 0", "peg c 0 0", "tray t 0 0", "peg t.d 5 7", "hoop h a 5", "hoop k c 1", "string s a c",
    "wish p level a b", "wish q plumb b t.d", "wish r side h east b", "wish u reach k 1",
)


def spots(text):
    """The pairs of a text such as `a.x t.d.y`."""
    return [tuple(word.rsplit(".", 1)) for word in text.split()]


def grown(groups, start):
    """All that is in one of the groups with the start, or by others that are."""
    found = set(start)
    while True:
        more = set().union(found, *[group for group in groups if found & set(group)])
        if more == found:
            return found
        found = more


def groups_of(sheet, wishes):
    told = []
    for each in wishes:
        for shares, _ in rows_told(sheet, each):
            told.append([spot[:2] for spot, share in zip(sheet.numbers(), shares) if share != 0])
    return told


class HangsOf(unittest.TestCase):
    def test_by_others(self):
        self.assertEqual(hangs_of(SHEET, "a"), spots("a.x a.y b.x b.y t.x t.d.x h.r"))
        self.assertEqual(hangs_of(SHEET, "b"), spots("a.x a.y b.x b.y t.x t.d.x h.r"))
        self.assertEqual(hangs_of(SHEET, "h"), spots("a.x b.x t.x t.d.x h.r"))

    def test_x_and_y_hang_apart(self):
        sheet = built("peg a 0 0", "peg b 0 0", "peg c 0 0", "wish p level a b", "wish q plumb b c")
        self.assertEqual(hangs_of(sheet, "a"), spots("a.x a.y b.y"))
        self.assertEqual(hangs_of(sheet, "b"), spots("a.y b.x b.y c.x"))
        self.assertEqual(hangs_of(sheet, "c"), spots("b.x c.x c.y"))
        sheet = changed(sheet, "wish r turn a b a c")
        self.assertEqual(hangs_of(sheet, "c"), spots("a.x a.y b.x b.y c.x c.y"))

    def test_trays_are_part_of_a_place(self):
        self.assertEqual(hangs_of(SHEET, "t.d"), spots("a.x b.x t.x t.y t.d.x t.d.y h.r"))
        self.assertEqual(hangs_of(SHEET, "t"), spots("a.x b.x t.x t.y t.d.x h.r"))
        sheet = built("tray t 0 0", "tray t.u 0 0", "peg t.u.a 0 0", "peg t.b 0 0")
        self.assertEqual(hangs_of(sheet, "t.u.a"), spots("t.x t.y t.u.x t.u.y t.u.a.x t.u.a.y"))
        self.assertEqual(hangs_of(sheet, "t.b"), spots("t.x t.y t.b.x t.b.y"))

    def test_shares_that_cancel_do_not_hang(self):
        sheet = built("tray t 0 0", "peg t.a 0 0", "peg t.b 1 0", "wish p off t.a t.b 1 0", "wish q off t t.a 0 0")
        self.assertEqual(hangs_of(sheet, "t"), spots("t.x t.y"))
        self.assertEqual(hangs_of(sheet, "t.a"), spots("t.x t.y t.a.x t.a.y t.b.x t.b.y"))
        sheet = built("peg a 0 0", "peg b 0 0", "peg c 0 0", "wish p part a b c 0")
        self.assertEqual(hangs_of(sheet, "a"), spots("a.x a.y b.x b.y"))
        sheet = built("peg a 0 0", "hoop h a 0", "hoop k a 0", "wish p big h k 0", "wish q side k east a")
        self.assertEqual(hangs_of(sheet, "h"), spots("h.r"))
        self.assertEqual(hangs_of(sheet, "k"), spots("k.r"))

    def test_without_wishes(self):
        self.assertEqual(hangs_of(SHEET, "c"), spots("c.x c.y"))
        self.assertEqual(hangs_of(SHEET, "k"), spots("k.r"))

    def test_of_a_string_both_pegs(self):
        self.assertEqual(hangs_of(SHEET, "s"), spots("a.x a.y b.x b.y c.x c.y t.x t.d.x h.r"))
        self.assertEqual(hangs_of(built("peg a 0 0", "peg b 0 0", "peg c 0 0", "string s c a"), "s"), spots("a.x a.y c.x c.y"))

    def test_no_figure(self):
        for path in ["", "z", "t.z", "d", "A", "t.", "x.y.z.w"]:
            with self.assertRaises(KeyError) as caught:
                hangs_of(SHEET, path)
            self.assertIs(type(caught.exception), NoFigure)
            self.assertEqual(caught.exception.path, path)

    def test_by_chance(self):
        chance = Chance(13)
        for _ in range(20):
            sheet = chance.sheet(5)
            groups = groups_of(sheet, [each for _, each in sheet.wishes()])
            for figure in sheet.figures():
                ends = figure[2:] if figure[0] == "string" else [figure[1]]
                starts = {
                    (path, axis) for path, axis, _ in sheet.numbers() for end in ends
                    if (end + ".").startswith(path + ".") and (axis == "r") == (figure[0] == "hoop")
                }
                found = grown(groups, starts)
                told = [spot[:2] for spot in sheet.numbers() if spot[:2] in found]
                self.assertEqual(hangs_of(sheet, figure[1]), told)


class HangsBy(unittest.TestCase):
    def test_were_the_wish_there(self):
        self.assertEqual(hangs_by(SHEET, wish("reach k 3")), spots("k.r"))
        self.assertEqual(hangs_by(SHEET, wish("reach h 3")), spots("a.x b.x t.x t.d.x h.r"))
        self.assertEqual(hangs_by(SHEET, wish("big h k 3")), spots("a.x b.x t.x t.d.x h.r k.r"))
        self.assertEqual(hangs_by(SHEET, wish("level a c")), spots("a.y b.y c.y"))
        self.assertEqual(hangs_by(SHEET, wish("plumb a c")), spots("a.x b.x c.x t.x t.d.x h.r"))
        self.assertEqual(hangs_by(SHEET, wish("pin t.d 1 1")), spots("a.x b.x t.x t.y t.d.x t.d.y h.r"))

    def test_without_wishes(self):
        sheet = built("tray t 0 0", "peg t.a 0 0", "peg t.b 0 0", "hoop h t.a 1")
        self.assertEqual(hangs_by(sheet, wish("off t.a t.b 1 1")), spots("t.a.x t.a.y t.b.x t.b.y"))
        self.assertEqual(hangs_by(sheet, wish("side h east t.a")), spots("h.r"))
        self.assertEqual(hangs_by(sheet, wish("side h east t.b")), spots("t.a.x t.a.y t.b.x t.b.y h.r"))

    def test_only_these_change(self):
        chance = Chance(14)
        many = 0
        for _ in range(25):
            sheet = chance.sheet(5)
            last = chance.wish(sheet)
            hung = hangs_by(sheet, last)
            groups = groups_of(sheet, [each for _, each in sheet.wishes()] + [last])
            found = grown(groups, [spot for group in groups_of(sheet, [last]) for spot in group])
            self.assertEqual(hung, [spot[:2] for spot in sheet.numbers() if spot[:2] in found])
            try:
                after = done(sheet, ("wish", "z", last))
            except Clash:
                continue
            for (path, axis, _), old, new in zip(sheet.numbers(), values(sheet), values(after)):
                if old != new:
                    many += 1
                    self.assertIn((path, axis), hung)
        self.assertGreater(many, 20)


class Knots(unittest.TestCase):
    def test_in_lists(self):
        self.assertEqual(knots(SHEET), [["p", "q", "r"], ["u"]])

    def test_by_a_wish_of_two_rows(self):
        # p is of y alone and q of x alone; only r, which has both, ties them.
        sheet = built("peg a 0 0", "peg b 0 0", "peg c 0 0", "wish p level a b", "wish q plumb b c")
        self.assertEqual(knots(sheet), [["p"], ["q"]])
        self.assertEqual(knots(changed(sheet, "wish r pin b 0 0")), [["p", "q", "r"]])

    def test_lists_as_their_first_names_stand(self):
        sheet = built(
            "peg a 0 0", "peg b 0 0", "peg c 0 0", "peg d 0 0", "hoop h a 1", "hoop k a 1",
            "wish z reach h 1", "wish y off a b 0 0", "wish x off c d 0 0", "wish w reach k 1", "wish v pin d 0 0", "wish a pin a 0 0",
        )
        self.assertEqual(knots(sheet), [["z"], ["y", "a"], ["x", "v"], ["w"]])
        self.assertEqual(knots(changed(sheet, "wish b big k h 1")), [["z", "w", "b"], ["y", "a"], ["x", "v"]])
        self.assertEqual(knots(changed(sheet, "wish b off b c 0 0")), [["z"], ["y", "x", "v", "a", "b"], ["w"]])

    def test_none(self):
        self.assertEqual(knots(built()), [])
        self.assertEqual(knots(built("peg a 0 0")), [])

    def test_two_that_name_one_tray_but_cancel(self):
        sheet = built(
            "tray t 0 0", "peg t.a 0 0", "peg t.b 0 0", "peg t.c 0 0", "peg t.d 0 0",
            "wish p off t.a t.b 0 0", "wish q off t.c t.d 0 0", "wish r pin t 0 0",
        )
        self.assertEqual(knots(sheet), [["p"], ["q"], ["r"]])
        self.assertEqual(knots(changed(sheet, "wish u pin t.a 0 0")), [["p", "r", "u"], ["q"]])

    def test_by_chance(self):
        chance = Chance(15)
        for _ in range(20):
            sheet = chance.sheet(8)
            names = [name for name, _ in sheet.wishes()]
            groups = {}
            for name, each in sheet.wishes():
                groups[name] = [spot for group in groups_of(sheet, [each]) for spot in group]
            told = []
            for name in names:
                found = grown(list(groups.values()), groups[name])
                one = [other for other in names if found & set(groups[other])]
                if one not in told:
                    told.append(one)
            self.assertEqual(knots(sheet), told)
            self.assertEqual(sorted(name for one in knots(sheet) for name in one), sorted(names))


class Handing(unittest.TestCase):
    def test_by_names(self):
        self.assertEqual(hangs_of(sheet=SHEET, path="k"), spots("k.r"))
        self.assertEqual(hangs_by(sheet=SHEET, wish=wish("reach k 2")), spots("k.r"))
        self.assertEqual(knots(sheet=SHEET), knots(SHEET))

    def test_nothing_is_changed_and_all_is_told_again(self):
        before = all_of(SHEET)
        for ask in [lambda: hangs_of(SHEET, "a"), lambda: hangs_by(SHEET, wish("reach k 2")), lambda: knots(SHEET)]:
            told = ask()
            kept = repr(told)
            self.assertIs(type(told), list)
            told.clear()
            self.assertEqual(repr(ask()), kept)
        self.assertTrue(all(type(one) is tuple for one in hangs_of(SHEET, "a")))
        told = knots(SHEET)
        self.assertTrue(all(type(one) is list for one in told))
        told[0].clear()
        self.assertEqual(knots(SHEET), [["p", "q", "r"], ["u"]])
        self.assertEqual(all_of(SHEET), before)
        self.assertEqual(deed("wish w reach k 2"), ("wish", "w", wish("reach k 2")))


if __name__ == "__main__":
    unittest.main()
