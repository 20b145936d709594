"""Promise 10: the nearest."""

import unittest
from fractions import Fraction

from making import (
    Chance, all_of, built, can_be_kept, changed, dot, fractions, loose, q, qs, rows_told, rows_told_by, values, wish,
)
from pegwishes.errors import Clash
from pegwishes.fracs import is_frac
from pegwishes.lots import lot_of
from pegwishes.near import near_paper, nearest, shows_near
from pegwishes.rows import keeps, rows_by, rows_of
from things import ODD

SHEET = built(
    "tray t 1 1", "peg t.a 2 3", "peg b 8 4", "peg c 0 0", "hoop h b 2", "wish p off t.a b 5 0", "wish q level b c",
)
LAST = wish("pin c 3 7")


def check_nearest(case, sheet, last, numbers):
    """Whether numbers keep all rows, and their changes stand upright on all changes that rows do not see."""
    rows = rows_told_by(sheet) + rows_told(sheet, last)
    found = fractions(numbers)
    for shares, right in rows:
        case.assertEqual(dot(shares, found), right)
    changes = [new - old for new, old in zip(found, fractions(values(sheet)))]
    for line in loose([shares for shares, _ in rows], len(found)):
        case.assertEqual(dot(line, changes), 0)


def check_paper(case, sheet, last, weights):
    """Whether weights sum the rows up to what the nearest numbers are more than the sheet's own."""
    rows = rows_by(sheet) + rows_of(sheet, last)
    case.assertIs(type(weights), list)
    case.assertEqual(len(weights), len(rows))
    case.assertTrue(all(is_frac(one) for one in weights))
    for at, (new, old) in enumerate(zip(nearest(sheet, last), values(sheet))):
        told = dot(fractions(weights), [fractions(shares)[at] for shares, _ in rows])
        case.assertEqual(Fraction(*new) - Fraction(*old), told)


class Nearest(unittest.TestCase):
    def told(self, sheet, text):
        numbers = nearest(sheet, wish(text))
        self.assertIs(type(numbers), list)
        self.assertTrue(all(is_frac(one) for one in numbers))
        check_nearest(self, sheet, wish(text), numbers)
        check_paper(self, sheet, wish(text), near_paper(sheet, wish(text)))
        return " ".join(str(one) for one in fractions(numbers))

    def test_nothing_to_be_changed(self):
        sheet = built("peg a 1 2", "peg b 4 2", "hoop h a 3", "wish w off a b 3 0")
        for text in ["pin a 1 2", "level a b", "side h east b", "reach h 3", "off b a -3 0"]:
            self.assertEqual(self.told(sheet, text), "1 2 4 2 3")

    def test_known_by_hand(self):
        pegs = built("peg a 0 0", "peg b 4 2", "peg c 1 1", "hoop h a 1", "hoop k b 3")
        for text, numbers in [
            ("pin a 1 -1", "1 -1 4 2 1 1 1 3"), ("level a b", "0 1 4 1 1 1 1 3"), ("plumb a b", "2 0 2 2 1 1 1 3"),
            ("off a b 2 2", "1 0 3 2 1 1 1 3"), ("part c a b 1/2", "-1/3 0 11/3 2 5/3 1 1 3"), ("reach h 5", "0 0 4 2 1 1 5 3"),
            ("big h k 1", "0 0 4 2 1 1 2 2"), ("big k h 2", "0 0 4 2 1 1 7/5 14/5"),
            ("side h east b", "1 1 3 1 1 1 2 3"), ("mirror a c b", "7/6 1/2 5/3 2 13/6 1/2 1 3"),
            ("like a b a c", "0 0 5/2 3/2 5/2 3/2 1 3"),
        ]:
            self.assertEqual(self.told(pegs, text), numbers, text)

    def test_a_peg_within_a_tray_draws_the_tray(self):
        self.assertEqual(self.told(built("tray t 0 0", "peg t.a 0 0", "peg t.b 1 1"), "pin t.a 2 4"), "1 2 1 2 1 1")
        self.assertEqual(
            self.told(built("tray t 0 0", "tray t.u 0 0", "peg t.u.a 0 0"), "pin t.u.a 3 6"), "1 2 1 2 1 2",
        )

    def test_with_wishes_there(self):
        sheet = built("peg a 0 0", "peg b 1 0", "peg c 9 9", "wish w off a b 1 0")
        self.assertEqual(self.told(sheet, "pin a 5 6"), "5 6 6 6 9 9")
        self.assertEqual(self.told(sheet, "level b c"), "0 3 1 3 9 3")
        self.assertEqual(self.told(SHEET, "pin c 3 7"), "1 5/2 2 9/2 8 7 3 7 2")

    def test_rows_that_are_sums_of_others(self):
        sheet = built(
            "peg a 0 0", "peg b 1 0", "wish w off a b 1 0", "wish v off b a -1 0", "wish u level a b", "wish s level b a",
        )
        self.assertEqual(self.told(sheet, "pin b 0 0"), "-1 0 0 0")
        self.assertEqual(self.told(sheet, "off a b 1 0"), "0 0 1 0")

    def test_rows_of_noughts(self):
        sheet = built("peg a 0 0", "hoop h a 3")
        self.assertEqual(self.told(sheet, "side h east a"), "0 0 0")
        self.assertEqual(self.told(changed(sheet, "wish w side h north a"), "side h east a"), "0 0 0")

    def test_by_chance(self):
        chance = Chance(10)
        kept = 0
        for _ in range(30):
            sheet = chance.sheet(7)
            for _ in range(3):
                last = chance.wish(sheet)
                if can_be_kept(rows_told_by(sheet) + rows_told(sheet, last)):
                    kept += 1
                    check_nearest(self, sheet, last, nearest(sheet, last))
                    check_paper(self, sheet, last, near_paper(sheet, last))
                    self.assertIs(shows_near(sheet, last, nearest(sheet, last), near_paper(sheet, last)), True)
        self.assertGreater(kept, 30)


class Clashing(unittest.TestCase):
    def test_with_its_lot(self):
        sheet = built("peg a 0 0", "peg b 1 0", "hoop h a 1", "wish r reach h 1", "wish p off a b 1 0", "wish q pin a 0 0")
        for text, lot in [("pin b 2 0", ["p", "q"]), ("reach h 2", ["r"]), ("off b a 1 0", ["p"])]:
            for ask in [nearest, near_paper]:
                with self.assertRaises(RuntimeError) as caught:
                    ask(sheet, wish(text))
                self.assertIs(type(caught.exception), Clash)
                self.assertEqual(caught.exception.lot, lot)
                self.assertEqual(caught.exception.lot, lot_of(sheet, wish(text)))
                self.assertIs(type(caught.exception.lot), list)


class ShowsNear(unittest.TestCase):
    def setUp(self):
        self.numbers = nearest(SHEET, LAST)
        self.weights = near_paper(SHEET, LAST)

    def shows(self, numbers, thing, last=LAST):
        told = shows_near(SHEET, last, numbers, thing)
        self.assertIs(type(told), bool)
        return told

    def test_shown(self):
        self.assertTrue(self.shows(self.numbers, self.weights))
        self.assertTrue(self.shows(tuple(self.numbers), self.weights))

    def test_one_number_otherwise(self):
        for at, number in enumerate(self.numbers):
            for more in [1, Fraction(-1, 10 ** 30)]:
                numbers = list(self.numbers)
                numbers[at] = q(Fraction(*number) + more)
                self.assertFalse(self.shows(numbers, self.weights))

    def test_numbers_that_keep_but_are_farther(self):
        rows = rows_told_by(SHEET) + rows_told(SHEET, LAST)
        for change in loose([shares for shares, _ in rows], len(self.numbers)):
            numbers = [q(Fraction(*one) + more) for one, more in zip(self.numbers, change)]
            self.assertTrue(keeps(rows_by(SHEET) + rows_of(SHEET, LAST), numbers))
            self.assertFalse(self.shows(numbers, self.weights))

    def test_numbers_that_weights_lead_to_but_do_not_keep(self):
        for at in range(len(self.weights)):
            weights = list(self.weights)
            weights[at] = q(Fraction(*weights[at]) + 1)
            rows = rows_by(SHEET) + rows_of(SHEET, LAST)
            numbers = [
                q(Fraction(*old) + dot(fractions(weights), [fractions(shares)[k] for shares, _ in rows]))
                for k, old in enumerate(values(SHEET))
            ]
            self.assertFalse(self.shows(numbers, weights))
            self.assertFalse(self.shows(self.numbers, weights))

    def test_the_sheets_own(self):
        self.assertFalse(self.shows(values(SHEET), [q(0)] * len(self.weights)))
        self.assertTrue(self.shows(values(SHEET), [q(0)] * 4, wish("reach h 2")))

    def test_too_many_too_few(self):
        self.assertFalse(self.shows(self.numbers[:-1], self.weights))
        self.assertFalse(self.shows(self.numbers + [q(0)], self.weights))
        self.assertFalse(self.shows(self.numbers, self.weights[:-1]))
        self.assertFalse(self.shows(self.numbers, self.weights + [q(0)]))
        self.assertFalse(self.shows(self.numbers, []))

    def test_a_thing_for_a_number(self):
        for at in range(len(self.numbers)):
            for part in [(2, 4), (0, 2), (True, 1), None, 1, "1", [1, 1], True]:
                numbers = list(self.numbers)
                numbers[at] = part
                self.assertFalse(self.shows(numbers, self.weights))
        one = built("peg a 0 0", "peg b 0 0")
        self.assertIs(shows_near(one, wish("pin a 1 0"), [(True, 1)] + qs("0 0 0"), qs("1 0")), False)
        self.assertIs(shows_near(one, wish("pin a 1 0"), qs("1 0 0 0"), qs("1 0")), True)

    def test_one_weight_otherwise(self):
        for at in range(len(self.weights)):
            for part in [(2, 4), (0, 2), (1, 0), (True, 1), None, 1, "1", [1, 1], True, (1,), [self.weights[at]]]:
                weights = list(self.weights)
                weights[at] = part
                self.assertFalse(self.shows(self.numbers, weights), (at, part))

    def test_a_tuple_is_no_list(self):
        self.assertFalse(self.shows(self.numbers, tuple(self.weights)))

    def test_anything(self):
        for thing in ODD:
            self.assertFalse(self.shows(self.numbers, thing))
            for at in range(len(self.weights)):
                weights = list(self.weights)
                weights[at] = thing
                if thing != (1, 2):
                    self.assertFalse(self.shows(self.numbers, weights))

    def test_weights_that_come_to_the_same(self):
        sheet = built("peg a 0 0", "peg b 1 0", "wish w level a b", "wish v level b a")
        last = wish("pin b 0 2")
        numbers, weights = nearest(sheet, last), fractions(near_paper(sheet, last))
        other = [q(one) for one in [weights[0] + 5, weights[1] + 5] + weights[2:]]
        self.assertIs(shows_near(sheet, last, numbers, other), True)

    def test_of_another_wish(self):
        self.assertFalse(self.shows(self.numbers, self.weights, wish("pin c 3 8")))
        self.assertFalse(self.shows(self.numbers, self.weights, wish("pin b 3 7")))

    def test_of_a_wish_that_clashes(self):
        last = wish("off t.a b 6 0")
        self.assertFalse(self.shows(values(SHEET), [q(0)] * 5, last))


class Handing(unittest.TestCase):
    def test_by_names(self):
        numbers, weights = nearest(sheet=SHEET, wish=LAST), near_paper(sheet=SHEET, wish=LAST)
        self.assertIs(shows_near(sheet=SHEET, wish=LAST, numbers=numbers, thing=weights), True)

    def test_nothing_is_changed_and_all_is_told_again(self):
        before = all_of(SHEET)
        numbers, weights = nearest(SHEET, LAST), near_paper(SHEET, LAST)
        kept = (list(numbers), list(weights))
        shows_near(SHEET, LAST, numbers, weights)
        self.assertEqual((numbers, weights), kept)
        numbers.clear()
        weights.clear()
        self.assertEqual((nearest(SHEET, LAST), near_paper(SHEET, LAST)), kept)
        self.assertEqual(all_of(SHEET), before)

    def test_on_numbers_of_any_size(self):
        big = 10 ** 40 - 1
        sheet = built("peg a 0 0", "peg b 1 0", "peg c 2 0", "hoop h a 1", "hoop k b 1")
        sheet = changed(sheet, ("wish", "p", ("part", "a", "b", "c", (big, big - 1))))
        sheet = changed(sheet, ("wish", "q", ("big", "h", "k", (-1, big))), ("wish", "r", ("side", "h", "west", "c")))
        for last in [("pin", "b", (1, big), (big, big - 2)), ("reach", "k", (big, 7))]:
            check_nearest(self, sheet, last, nearest(sheet, last))
            check_paper(self, sheet, last, near_paper(sheet, last))
            numbers = nearest(sheet, last)
            sheet = changed(sheet, ("wish", "x" + last[0], last))
            self.assertEqual(values(sheet), numbers)
        long = (7 ** 3000, 10 ** 1000)
        sheet = changed(built("peg a 0 0", "peg b 1 0", "wish w off a b 1 0"), ("move", "a", long, long))
        check_nearest(self, sheet, wish("pin b 0 0"), nearest(sheet, wish("pin b 0 0")))
        self.assertEqual(nearest(sheet, wish("pin b 0 0")), qs("-1 0 0 0"))


if __name__ == "__main__":
    unittest.main()
