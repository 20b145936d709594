"""Promise 11: what is firm, and what may sway."""

import unittest
from fractions import Fraction

from making import (
    Chance, all_of, built, changed, dot, fractions, loose, q, qs, rank, rows_told_by, values,
)
from pegwishes.errors import NoFigure
from pegwishes.firm import firm_paper, held_by, shows_firm, shows_sway, sway_of, ways
from pegwishes.fracs import is_frac
from pegwishes.rows import rows_by
from things import ODD

SHEET = built(
    "tray t 1 1", "peg t.a 2 3", "peg b 8 4", "peg c 0 4", "peg d 5 5", "hoop h b 2", "hoop k d 3", "string s b d",
    "wish p pin t.a 3 4", "wish q off t.a b 5 0", "wish r level b c", "wish u reach h 2",
)
ASKED = ["t", "t.a", "b", "c", "d", "h", "k"]


def lines_asked(sheet, path):
    """The shares of all numbers in what is asked for, told by the words alone."""
    if sheet.kind(path) == "hoop":
        return [[Fraction(one == (path, "r")) for one in spots(sheet)]]
    return [
        [Fraction(axis == along and (path + ".").startswith(held + ".")) for held, along in spots(sheet)] for axis in "xy"
    ]


def spots(sheet):
    return [(path, axis) for path, axis, _ in sheet.numbers()]


def ways_told(sheet, path):
    lines = [shares for shares, _ in rows_told_by(sheet)]
    return rank(lines + lines_asked(sheet, path)) - rank(lines)


def check_firm(case, sheet, path, paper):
    case.assertIs(type(paper), tuple)
    lines = [shares for shares, _ in rows_told_by(sheet)]
    asked = lines_asked(sheet, path)
    case.assertEqual(len(paper), len(asked))
    for weights, wanted in zip(paper, asked):
        case.assertIs(type(weights), list)
        case.assertEqual(len(weights), len(lines))
        case.assertTrue(all(is_frac(one) for one in weights))
        for at, share in enumerate(wanted):
            case.assertEqual(dot(fractions(weights), [line[at] for line in lines]), share)


def check_sway(case, sheet, path, changes):
    case.assertIs(type(changes), list)
    case.assertEqual(len(changes), len(values(sheet)))
    case.assertTrue(all(is_frac(one) for one in changes))
    for shares, _ in rows_told_by(sheet):
        case.assertEqual(dot(shares, fractions(changes)), 0)
    case.assertTrue(any(dot(line, fractions(changes)) != 0 for line in lines_asked(sheet, path)))


class Ways(unittest.TestCase):
    def test_by_wishes_alone(self):
        sheet = built("peg a 0 0", "peg b 1 0", "peg c 2 0", "hoop h a 2", "hoop k b 4", "wish p pin a 0 0", "wish q level a b")
        for path, many in [("a", 0), ("b", 1), ("c", 2), ("h", 1), ("k", 1)]:
            self.assertEqual(ways(sheet, path), many)
        sheet = changed(sheet, "wish r big k h 2", "wish s reach h 3")
        self.assertEqual([ways(sheet, "h"), ways(sheet, "k")], [0, 0])

    def test_through_trays(self):
        for path, many in [("t", 2), ("t.a", 0), ("b", 0), ("c", 1), ("d", 2), ("h", 0), ("k", 1)]:
            self.assertEqual(ways(SHEET, path), many, path)
        sheet = changed(SHEET, "wish v pin t 0 0", "wish w side k west c")
        for path, many in [("t", 0), ("t.a", 0), ("c", 1), ("d", 1), ("k", 1)]:
            self.assertEqual(ways(sheet, path), many, path)

    def test_of_trays_pegs_and_hoops(self):
        sheet = built("tray t 0 0", "tray u 0 0", "tray v 0 0", "wish p pin t 0 0", "wish q plumb t u")
        self.assertEqual([ways(sheet, path) for path in "tuv"], [0, 1, 2])

    def test_x_and_y_bound_to_one_another(self):
        sheet = built(
            "peg o 0 0", "peg a 1 0", "peg b 2 0", "peg c 0 1", "wish p pin o 0 0", "wish q pin a 1 0", "wish r level o b",
            "wish s turn o b o c",
        )
        self.assertEqual([ways(sheet, path) for path in "oabc"], [0, 0, 1, 1])
        # c may go along the line of o and a place at (1, 2), which lies along neither axis.
        sheet = built(
            "peg o 0 0", "peg a 1 2", "peg b 2 0", "peg c 0 1", "wish p pin o 0 0", "wish q part c o a 3", "wish r turn o a o b",
        )
        self.assertEqual([ways(sheet, path) for path in "oabc"], [0, 2, 2, 2])
        sheet = changed(sheet, "wish s turn a b c o")
        self.assertEqual([ways(sheet, path) for path in "oabc"], [ways_told(sheet, path) for path in "oabc"])

    def test_one_way_aslant(self):
        # d is o and the same share in x and in y, so it may go along a slanted line alone.
        sheet = built(
            "peg o 0 0", "peg u 1 0", "peg d 1 0", "hoop h o 1", "peg e 1 1",
            "wish p pin o 0 0", "wish q side h east u", "wish r turn o u u e",
        )
        self.assertEqual([ways(sheet, path) for path in ["o", "u", "e", "h", "d"]], [0, 1, 1, 1, 2])

    def test_no_figure(self):
        for path in ["s", "z", "", "t.z", "t.", "a", "A", "x.y.z.w", "t..a"]:
            for ask in [ways, firm_paper, sway_of, held_by]:
                with self.assertRaises(KeyError) as caught:
                    ask(SHEET, path)
                self.assertIs(type(caught.exception), NoFigure)
                self.assertEqual(caught.exception.path, path)
            for ask in [shows_firm, shows_sway]:
                with self.assertRaises(NoFigure) as caught:
                    ask(SHEET, path, None)
                self.assertEqual(caught.exception.path, path)

    def test_by_chance(self):
        chance = Chance(11)
        seen = {}
        for _ in range(25):
            sheet = chance.sheet(9)
            for path in [figure[1] for figure in sheet.figures() if figure[0] != "string"]:
                many = ways_told(sheet, path)
                told = (sheet.kind(path), many)
                seen[told] = seen.get(told, 0) + 1
                self.assertEqual(ways(sheet, path), many)
                firm, sway = firm_paper(sheet, path), sway_of(sheet, path)
                self.assertIs(firm is None, many != 0)
                self.assertIs(sway is None, many == 0)
                if many == 0:
                    check_firm(self, sheet, path, firm)
                    self.assertIs(shows_firm(sheet, path, firm), True)
                else:
                    check_sway(self, sheet, path, sway)
                    self.assertIs(shows_sway(sheet, path, sway), True)
        self.assertEqual(len(seen), 8)


class Papers(unittest.TestCase):
    def test_one_or_the_other_never_both(self):
        for path in ASKED:
            firm, sway = firm_paper(SHEET, path), sway_of(SHEET, path)
            self.assertNotEqual(firm is None, sway is None)
            if firm is None:
                check_sway(self, SHEET, path, sway)
            else:
                check_firm(self, SHEET, path, firm)

    def test_known_by_hand(self):
        self.assertEqual(firm_paper(SHEET, "t.a"), (qs("1 0 0 0 0 0"), qs("0 1 0 0 0 0")))
        self.assertEqual(firm_paper(SHEET, "b"), (qs("1 0 1 0 0 0"), qs("0 1 0 1 0 0")))
        self.assertEqual(firm_paper(SHEET, "h"), (qs("0 0 0 0 0 1"),))

    def test_without_wishes(self):
        sheet = built("tray t 0 0", "peg t.a 0 0", "hoop h t.a 1")
        for path in ["t", "t.a", "h"]:
            self.assertIsNone(firm_paper(sheet, path))
            check_sway(self, sheet, path, sway_of(sheet, path))
            self.assertIs(shows_firm(sheet, path, ([], [])), False)
            self.assertIs(shows_firm(sheet, path, ([],)), False)


class ShowsFirm(unittest.TestCase):
    def shows(self, path, thing):
        told = shows_firm(SHEET, path, thing)
        self.assertIs(type(told), bool)
        return told

    def test_shown(self):
        for path in ["t.a", "b", "h"]:
            self.assertTrue(self.shows(path, firm_paper(SHEET, path)))

    def test_of_another_path(self):
        for path in ASKED:
            for other in ["t.a", "b", "h"]:
                self.assertIs(self.shows(path, firm_paper(SHEET, other)), path == other)

    def test_one_weight_otherwise(self):
        for path in ["t.a", "b", "h"]:
            paper = firm_paper(SHEET, path)
            for at, weights in enumerate(paper):
                for k, weight in enumerate(weights):
                    for part in [q(Fraction(*weight) + 1), (2, 4), (0, 2), (True, 1), None, 0, "0", [0, 1], True]:
                        spoilt = [list(one) for one in paper]
                        spoilt[at][k] = part
                        self.assertFalse(self.shows(path, tuple(spoilt)), (path, at, k, part))

    def test_lists_otherwise(self):
        x, y = firm_paper(SHEET, "b")
        for thing in [[x, y], (y, x), (x,), (x, y, y), (), (x, tuple(y)), (tuple(x), y), (x[:-1], y), (x, y[:-1]), x, (x, None),
                      (x + [q(0)], y), (x, y + [q(0)]), ([], []), (x, x), (y, y), None]:
            self.assertFalse(self.shows("b", thing))
        r, = firm_paper(SHEET, "h")
        for thing in [[r], r, (r, r), (), (tuple(r),), (r[:-1],)]:
            self.assertFalse(self.shows("h", thing))

    def test_anything(self):
        for thing in ODD:
            for path in ASKED:
                self.assertFalse(self.shows(path, thing))
            self.assertFalse(self.shows("h", (thing,)))
            self.assertFalse(self.shows("b", (thing, firm_paper(SHEET, "b")[1])))

    def test_weights_that_come_to_the_same(self):
        sheet = changed(SHEET, "wish v level c b")
        x, y = firm_paper(sheet, "b")
        self.assertIs(shows_firm(sheet, "b", (x, y[:4] + [q(3), q(0), q(3)])), True)
        self.assertIs(shows_firm(sheet, "b", (x, y[:4] + [q(3), q(0), q(2)])), False)


class ShowsSway(unittest.TestCase):
    def shows(self, path, thing):
        told = shows_sway(SHEET, path, thing)
        self.assertIs(type(told), bool)
        return told

    def test_shown(self):
        for path in ["t", "c", "d", "k"]:
            self.assertTrue(self.shows(path, sway_of(SHEET, path)))

    def test_never_of_what_is_firm(self):
        lines = [shares for shares, _ in rows_told_by(SHEET)]
        for change in loose(lines, len(values(SHEET))):
            for path in ["t.a", "b", "h"]:
                self.assertFalse(self.shows(path, [q(one) for one in change]))

    def test_all_changes_that_rows_do_not_see(self):
        lines = [shares for shares, _ in rows_told_by(SHEET)]
        for change in loose(lines, len(values(SHEET))):
            for path in ASKED:
                moved = any(dot(line, change) != 0 for line in lines_asked(SHEET, path))
                self.assertIs(self.shows(path, [q(one) for one in change]), moved)

    def test_known_by_hand(self):
        # Numbers: t, t.a, b, c, d by x and y, then the r of h and of k.
        for path, text, told in [
            ("d", "0 0 0 0 0 0 0 0 1 0 0 0", True), ("d", "0 0 0 0 0 0 0 0 0 -1/2 0 5", True), ("t", "1 0 -1 0 0 0 0 0 0 0 0 0", True),
            ("t", "1 0 -1 1 0 0 0 0 0 0 0 0", False), ("t", "0 0 0 0 0 0 0 0 1 0 0 0", False), ("c", "0 0 0 0 0 0 2 0 0 0 0 0", True),
            ("c", "0 0 0 0 0 0 0 2 0 0 0 0", False), ("k", "0 0 0 0 0 0 0 0 0 0 0 1", True), ("k", "0 0 0 0 0 0 0 0 0 0 1 1", False),
            ("d", "0 0 0 0 0 0 0 0 0 0 0 0", False), ("d", "0 0 0 0 0 0 0 1 1 0 0 0", False),
        ]:
            self.assertIs(self.shows(path, qs(text)), told, (path, text))

    def test_one_number_otherwise(self):
        for path in ["t", "c", "d", "k"]:
            changes = sway_of(SHEET, path)
            for at in range(len(changes)):
                for part in [(2, 4), (0, 2), (True, 1), None, 0, "0", [0, 1], True]:
                    spoilt = list(changes)
                    spoilt[at] = part
                    self.assertFalse(self.shows(path, spoilt))
            for at in [2, 3, 4, 5, 7, 10]:
                spoilt = list(changes)
                spoilt[at] = q(Fraction(*spoilt[at]) + 1)
                self.assertFalse(self.shows(path, spoilt))

    def test_lists_otherwise(self):
        changes = sway_of(SHEET, "d")
        for thing in [tuple(changes), changes[:-1], changes + [q(0)], [], [changes], (changes,), None, changes[0]]:
            self.assertFalse(self.shows("d", thing))

    def test_anything(self):
        for thing in ODD:
            for path in ASKED:
                self.assertFalse(self.shows(path, thing))


class HeldBy(unittest.TestCase):
    def test_held(self):
        for path, names in [("t", []), ("t.a", ["p"]), ("b", ["p", "q"]), ("c", ["p", "q", "r"]), ("d", []), ("h", ["u"]), ("k", [])]:
            self.assertEqual(held_by(SHEET, path), names, path)

    def test_as_they_stand(self):
        sheet = built("peg a 0 0", "peg b 0 0", "wish z off a b 0 0", "wish a pin a 0 0")
        self.assertEqual(held_by(sheet, "b"), ["z", "a"])

    def test_held_twice_is_held_by_none_alone(self):
        sheet = built("peg a 0 0", "peg b 0 0", "wish p pin a 0 0", "wish q pin a 0 0", "wish r level a b")
        self.assertEqual(held_by(sheet, "a"), [])
        self.assertEqual(held_by(sheet, "b"), ["r"])
        self.assertEqual(held_by(changed(sheet, "unwish p"), "b"), ["q", "r"])

    def test_ways_from_one_to_two(self):
        sheet = built("peg a 0 0", "peg b 0 0", "wish r level a b")
        self.assertEqual(held_by(sheet, "b"), [])
        self.assertEqual(held_by(changed(sheet, "wish p pin a 0 0"), "b"), ["r", "p"])

    def test_by_chance(self):
        chance = Chance(12)
        for _ in range(10):
            sheet = chance.sheet(9)
            for path in [figure[1] for figure in sheet.figures() if figure[0] != "string"]:
                many = ways_told(sheet, path)
                names = [name for name, _ in sheet.wishes() if ways_told(changed(sheet, ("unwish", name)), path) > many]
                self.assertEqual(held_by(sheet, path), names)


class Handing(unittest.TestCase):
    def test_by_names(self):
        self.assertEqual(ways(sheet=SHEET, path="b"), 0)
        self.assertIs(shows_firm(sheet=SHEET, path="b", thing=firm_paper(sheet=SHEET, path="b")), True)
        self.assertIs(shows_sway(sheet=SHEET, path="d", thing=sway_of(sheet=SHEET, path="d")), True)
        self.assertEqual(held_by(sheet=SHEET, path="h"), ["u"])

    def test_nothing_is_changed_and_all_is_told_again(self):
        before = all_of(SHEET)
        for ask in [ways, firm_paper, sway_of, held_by]:
            for path in ASKED:
                self.assertEqual(ask(SHEET, path), ask(SHEET, path))
        paper = firm_paper(SHEET, "b")
        kept = repr(paper)
        shows_firm(SHEET, "b", paper)
        self.assertEqual(repr(paper), kept)
        self.assertIsNot(paper[0], paper[1])
        for told in [paper[0], paper[1], sway_of(SHEET, "d"), held_by(SHEET, "c")]:
            told.clear()
        self.assertEqual(repr(firm_paper(SHEET, "b")), kept)
        self.assertEqual(all_of(SHEET), before)

    def test_fractions_at_the_ends(self):
        big = 10 ** 40 - 1
        sheet = built("peg a 0 0", "peg b 1 0", "peg c 2 0", "wish p pin a 0 0")
        sheet = changed(sheet, ("wish", "q", ("part", "b", "a", "c", (big, big - 1))), ("wish", "r", ("pin", "b", (1, big), (big, 1))))
        for path in "abc":
            check_firm(self, sheet, path, firm_paper(sheet, path))


if __name__ == "__main__":
    unittest.main()
