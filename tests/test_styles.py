"""Promise 15: styles."""

import unittest

from making import all_of, built, changed, deed
from pegwishes.deeds import done
from pegwishes.errors import BadStyle, NoFigure
from pegwishes.styles import style_of
from things import ODD

ROWS = [
    "tray t 0 0", "tray t.u 0 0", "tray tt 0 0", "peg a 0 0", "peg t.a 0 0", "peg t.u.a 0 0", "peg tt.a 0 0", "string s a t.a",
    "string t.s a t.a", "hoop h a 1", "hoop t.u.h a 1",
]
SHEET = built(*ROWS)


def styled(*rules):
    return changed(SHEET, *["style " + rule for rule in rules])


class StyleOf(unittest.TestCase):
    def check(self, rules, **told):
        """The styles of figures behind rules; `_` in a name stands for a dot."""
        sheet = styled(*rules)
        for name, text in told.items():
            ink, layer, shown = text.split()
            self.assertEqual(style_of(sheet, name.replace("_", ".")), (ink, int(layer), shown), (rules, name))

    def test_without_any(self):
        self.check([], a="o 0 yes", t_u_a="o 0 yes", s="s 0 yes", t_s="s 0 yes", h="c 0 yes", t_u_h="c 0 yes")
        told = style_of(SHEET, "a")
        self.assertEqual((type(told), [type(one) for one in told]), (tuple, [str, int, str]))

    def test_kind(self):
        rules = ["kind peg ink p", "kind string layer 4", "kind hoop shown no"]
        self.check(rules, a="p 0 yes", t_u_a="p 0 yes", s="s 4 yes", t_s="s 4 yes", h="c 0 no", t_u_h="c 0 no")

    def test_in(self):
        self.check(["in t ink x"], a="o 0 yes", t_a="x 0 yes", t_u_a="x 0 yes", tt_a="o 0 yes", s="s 0 yes", t_s="x 0 yes", t_u_h="x 0 yes")
        self.check(["in t.u layer 9"], t_a="o 0 yes", t_u_a="o 9 yes", t_s="s 0 yes", t_u_h="c 9 yes", tt_a="o 0 yes")

    def test_at(self):
        self.check(["at t.a ink x", "at s layer 2", "at t.u.h shown no"], a="o 0 yes", t_a="x 0 yes", s="s 2 yes", t_s="s 0 yes", t_u_h="c 0 no")

    def test_at_goes_ahead_of_in_and_in_of_kind(self):
        rules = ["at t.a ink x", "in t ink y", "kind peg ink z"]
        for order in [rules, rules[::-1], rules[1:] + rules[:1], [rules[1], rules[0], rules[2]]]:
            self.check(order, a="z 0 yes", t_a="x 0 yes", t_u_a="y 0 yes", tt_a="z 0 yes")

    def test_of_two_trays_the_inner_one(self):
        for rules in [["in t ink x", "in t.u ink y"], ["in t.u ink y", "in t ink x"]]:
            self.check(rules, t_a="x 0 yes", t_u_a="y 0 yes", t_u_h="y 0 yes", t_s="x 0 yes")
            self.check(rules + ["at t.u.a ink z"], t_u_a="z 0 yes")

    def test_of_two_alike_the_one_further_behind(self):
        self.check(["kind peg ink x", "kind peg ink y"], a="y 0 yes")
        self.check(["in t layer 5", "in t layer 0"], t_a="o 0 yes")
        self.check(["at a shown no", "at a shown yes"], a="o 0 yes")
        self.check(["at a shown yes", "at a shown no"], a="o 0 no")

    def test_each_key_by_itself(self):
        self.check(["at t.a ink x", "in t layer 3", "kind peg shown no"], t_a="x 3 no", t_u_a="o 3 no", a="o 0 no")
        self.check(["at a layer 0", "kind peg layer 9"], a="o 0 yes", t_a="o 9 yes")

    def test_no_figure(self):
        for path in ["", "z", "t", "t.u", "t.z", "A", "peg", "tt"]:
            with self.assertRaises(KeyError) as caught:
                style_of(SHEET, path)
            self.assertIs(type(caught.exception), NoFigure)
            self.assertEqual(caught.exception.path, path)

    def test_a_figure_called_like_a_kind(self):
        sheet = built("peg string 0 0", "peg b 0 0", "string peg string b", "style kind peg ink x", "style at peg ink y")
        self.assertEqual([style_of(sheet, path)[0] for path in ["string", "b", "peg"]], ["x", "x", "y"])


class Rules(unittest.TestCase):
    def spot_of(self, *rule):
        before = all_of(SHEET)
        try:
            after = done(SHEET, ("style", *rule))
        except BadStyle as caught:
            self.assertEqual(all_of(SHEET), before)
            self.assertIs(type(caught.spot), int)
            return caught.spot
        self.assertEqual(after.styles(), SHEET.styles() + [rule])
        return None

    def test_all_that_are_so(self):
        for key, value in [("ink", "a"), ("ink", "z"), ("layer", 0), ("layer", 9), ("shown", "yes"), ("shown", "no")]:
            for how, whats in [
                ("kind", ["peg", "string", "hoop"]), ("in", ["t", "t.u", "tt"]), ("at", ["a", "t.u.a", "s", "t.s", "h", "t.u.h"]),
            ]:
                for what in whats:
                    self.assertIsNone(self.spot_of(how, what, key, value))

    def test_another_count(self):
        for rule in [(), ("kind",), ("kind", "peg"), ("kind", "peg", "ink"), ("kind", "peg", "ink", "a", "a"), ("x",), ("at", "z", "ink")]:
            self.assertEqual(self.spot_of(*rule), 0)

    def test_how(self):
        for how in ["", "Kind", "kinds", "on", "peg", "kindin", "n"] + ODD:
            self.assertEqual(self.spot_of(how, "peg", "ink", "a"), 0)
            self.assertEqual(self.spot_of(how, None, None, None), 0)

    def test_what(self):
        for how, whats in [
            ("kind", ["", "tray", "Peg", "a", "t", "pegs", "sheet"]), ("in", ["", "z", "a", "s", "h", "t.a", "t.", "T", "peg", "t.z"]),
            ("at", ["", "z", "t", "t.u", "peg", "tt", "A", "t.z", "tray"]),
        ]:
            for what in whats + ODD:
                self.assertEqual(self.spot_of(how, what, "ink", "a"), 1, (how, what))
                self.assertEqual(self.spot_of(how, what, "x", 12), 1, (how, what))

    def test_key(self):
        for key in ["", "Ink", "inks", "colour", "layers", "show", "a"] + ODD:
            for rule in [("kind", "peg"), ("in", "t"), ("at", "h")]:
                self.assertEqual(self.spot_of(*rule, key, "a"), 2)

    def test_value(self):
        for key, values in [
            ("ink", ["", "A", "aa", "1", "-", ".", " ", "\u00e9", 0, 5, "yes"]),
            ("layer", [-1, 10, 100, 10 ** 30, True, False, "0", "5", (1, 1), (0, 1)]),
            ("shown", ["", "Yes", "y", "true", "a", 0, 1, True, False, "yesno", "es"]),
        ]:
            for value in values + [one for one in ODD if one not in (0, 1, "r")]:
                for rule in [("kind", "peg"), ("in", "t"), ("at", "h")]:
                    self.assertEqual(self.spot_of(*rule, key, value), 3, (key, value))

    def test_as_told_by_the_deed(self):
        self.assertEqual(deed("style kind peg layer 3"), ("style", "kind", "peg", "layer", 3))


class Handing(unittest.TestCase):
    def test_by_names(self):
        self.assertEqual(style_of(sheet=SHEET, path="h"), ("c", 0, "yes"))

    def test_nothing_is_changed(self):
        sheet = styled("kind peg ink x", "in t ink y")
        before = all_of(sheet)
        self.assertEqual(style_of(sheet, "t.a"), style_of(sheet, "t.a"))
        self.assertEqual(all_of(sheet), before)


if __name__ == "__main__":
    unittest.main()
