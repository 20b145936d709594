"""Promise 8: rows."""

import unittest
from fractions import Fraction

from making import Chance, all_of, built, changed, fractions, q, qs, rows_told, rows_told_by, values, wish
from pegwishes.rows import holds, keeps, rows_by, rows_of

# Numbers: a b c d of x, y each, then the r of h and k.
FLAT = built("peg a 1 2", "peg b 4 6", "peg c 0 1", "peg d 3 5", "hoop h a 2", "hoop k b 3")


def row(text):
    """A row of a text: shares, then, behind a colon, right."""
    shares, right = text.split(":")
    return (tuple(qs(shares)), q(right.strip()))


def plain(rows):
    return [(fractions(shares), Fraction(*right)) for shares, right in rows]


class Rows(unittest.TestCase):
    def check(self, text, *told):
        self.assertEqual(rows_of(FLAT, wish(text)), [row(one) for one in told], text)

    def test_pin(self):
        self.check("pin b 1/2 -3", "0 0 1 0 0 0 0 0 0 0: 1/2", "0 0 0 1 0 0 0 0 0 0: -3")

    def test_level(self):
        self.check("level a b", "0 1 0 -1 0 0 0 0 0 0: 0")

    def test_plumb(self):
        self.check("plumb b a", "-1 0 1 0 0 0 0 0 0 0: 0")

    def test_off(self):
        self.check("off a b 3 -4", "-1 0 1 0 0 0 0 0 0 0: 3", "0 -1 0 1 0 0 0 0 0 0: -4")

    def test_part(self):
        self.check("part c a b 1/3", "-2/3 0 -1/3 0 1 0 0 0 0 0: 0", "0 -2/3 0 -1/3 0 1 0 0 0 0: 0")
        self.check("part a b c -2", "1 0 -3 0 2 0 0 0 0 0: 0", "0 1 0 -3 0 2 0 0 0 0: 0")
        self.check("part a b c 0", "1 0 -1 0 0 0 0 0 0 0: 0", "0 1 0 -1 0 0 0 0 0 0: 0")

    def test_like(self):
        self.check("like a b c d", "1 0 -1 0 -1 0 1 0 0 0: 0", "0 1 0 -1 0 -1 0 1 0 0: 0")

    def test_like_with_paths_there_twice(self):
        self.check("like a b b a", "2 0 -2 0 0 0 0 0 0 0: 0", "0 2 0 -2 0 0 0 0 0 0: 0")
        self.check("like a b b c", "1 0 -2 0 1 0 0 0 0 0: 0", "0 1 0 -2 0 1 0 0 0 0: 0")
        self.check("like a b a c", "0 0 -1 0 1 0 0 0 0 0: 0", "0 0 0 -1 0 1 0 0 0 0: 0")

    def test_turn(self):
        self.check("turn a b c d", "0 -1 0 1 -1 0 1 0 0 0: 0", "1 0 -1 0 0 -1 0 1 0 0: 0")
        self.check("turn a b a c", "-1 -1 0 1 1 0 0 0 0 0: 0", "1 -1 -1 0 0 1 0 0 0 0: 0")

    def test_mirror(self):
        self.check("mirror a b c", "1 0 1 0 -2 0 0 0 0 0: 0", "0 1 0 -1 0 0 0 0 0 0: 0")

    def test_reach(self):
        self.check("reach k -3/2", "0 0 0 0 0 0 0 0 0 1: -3/2")

    def test_big(self):
        self.check("big h k 5/2", "0 0 0 0 0 0 0 0 1 -5/2: 0")
        self.check("big k h 0", "0 0 0 0 0 0 0 0 0 1: 0")

    def test_side(self):
        self.check("side h east c", "-1 0 0 0 1 0 0 0 -1 0: 0", "0 -1 0 0 0 1 0 0 0 0: 0")
        self.check("side h north c", "-1 0 0 0 1 0 0 0 0 0: 0", "0 -1 0 0 0 1 0 0 -1 0: 0")
        self.check("side h west c", "-1 0 0 0 1 0 0 0 1 0: 0", "0 -1 0 0 0 1 0 0 0 0: 0")
        self.check("side k south c", "0 0 -1 0 1 0 0 0 0 0: 0", "0 0 0 -1 0 1 0 0 0 1: 0")

    def test_side_that_is_the_hoops_peg(self):
        self.check("side h east a", "0 0 0 0 0 0 0 0 -1 0: 0", "0 0 0 0 0 0 0 0 0 0: 0")
        self.check("side h south a", "0 0 0 0 0 0 0 0 0 0: 0", "0 0 0 0 0 0 0 0 1 0: 0")

    def test_within_trays(self):
        sheet = built("tray t 1 1", "tray t.u 2 2", "peg t.a 3 3", "peg t.u.b 4 4", "peg tt 5 5", "hoop t.h t.u.b 2")
        for text, told in [
            ("pin t 1 2", ["1 0 0 0 0 0 0 0 0 0 0: 1", "0 1 0 0 0 0 0 0 0 0 0: 2"]),
            ("pin t.u.b 1 2", ["1 0 1 0 0 0 1 0 0 0 0: 1", "0 1 0 1 0 0 0 1 0 0 0: 2"]),
            ("off t t.u.b 1 2", ["0 0 1 0 0 0 1 0 0 0 0: 1", "0 0 0 1 0 0 0 1 0 0 0: 2"]),
            ("off t.a t.u.b 1 2", ["0 0 1 0 -1 0 1 0 0 0 0: 1", "0 0 0 1 0 -1 0 1 0 0 0: 2"]),
            ("level tt t.a", ["0 -1 0 0 0 -1 0 0 0 1 0: 0"]),
            ("mirror t.a t.u.b tt", ["2 0 1 0 1 0 1 0 -2 0 0: 0", "0 0 0 -1 0 1 0 -1 0 0 0: 0"]),
            ("part t t.a t.u.b 1/2", ["0 0 -1/2 0 -1/2 0 -1/2 0 0 0 0: 0", "0 0 0 -1/2 0 -1/2 0 -1/2 0 0 0: 0"]),
            ("reach t.h 1", ["0 0 0 0 0 0 0 0 0 0 1: 1"]),
            ("side t.h east t", ["0 0 -1 0 0 0 -1 0 0 0 -1: 0", "0 0 0 -1 0 0 0 -1 0 0 0: 0"]),
        ]:
            self.assertEqual(rows_of(sheet, wish(text)), [row(one) for one in told], text)

    def test_by_chance(self):
        chance = Chance(8)
        for _ in range(60):
            sheet = chance.figures(hoops=2)
            for _ in range(5):
                told = chance.wish(sheet)
                self.assertEqual(plain(rows_of(sheet, told)), rows_told(sheet, told), told)

    def test_kinds(self):
        told = rows_of(FLAT, wish("off a b 3 -4"))
        self.assertIs(type(told), list)
        for one in told:
            self.assertIs(type(one), tuple)
            self.assertIs(type(one[0]), tuple)
            self.assertEqual(len(one), 2)

    def test_fractions_at_the_ends(self):
        big = 10 ** 40 - 1
        told = rows_of(FLAT, ("part", "a", "b", "c", (big, big - 1)))
        self.assertEqual(told[0][0][2], (1, big - 1))
        self.assertEqual(told[0][0][4], (-big, big - 1))


class RowsBy(unittest.TestCase):
    def test_one_behind_the_other(self):
        texts = ["off a b 3 4", "reach h 2", "side k east d", "level c a"]
        sheet = changed(FLAT, *[f"wish w{'abcd'[at]} {text}" for at, text in enumerate(texts)])
        self.assertEqual(rows_by(sheet), [one for text in texts for one in rows_of(sheet, wish(text))])
        self.assertEqual(len(rows_by(sheet)), 6)

    def test_none(self):
        self.assertEqual(rows_by(FLAT), [])
        self.assertEqual(rows_by(built()), [])

    def test_by_chance(self):
        chance = Chance(9)
        for _ in range(15):
            sheet = chance.sheet()
            self.assertEqual(plain(rows_by(sheet)), rows_told_by(sheet))
            self.assertIs(keeps(rows_by(sheet), values(sheet)), True)


class Keeps(unittest.TestCase):
    ROWS = [row("1 2 0: 5"), row("0 1/2 -1: 0"), row("1 0 0: 1")]

    def test_all_all_but_one_none(self):
        self.assertIs(keeps(self.ROWS, qs("1 2 1")), True)
        self.assertIs(keeps(self.ROWS, qs("1 2 2")), False)
        self.assertIs(keeps(self.ROWS, qs("3 1 1/2")), False)
        self.assertIs(keeps(self.ROWS, qs("1 4 2")), False)
        self.assertIs(keeps(self.ROWS, qs("0 0 1")), False)

    def test_each_row_counts(self):
        for at in range(3):
            spoilt = list(self.ROWS)
            spoilt[at] = (spoilt[at][0], q(Fraction(*spoilt[at][1]) + Fraction(1, 10 ** 39)))
            self.assertIs(keeps(spoilt, qs("1 2 1")), False)

    def test_no_rows(self):
        self.assertIs(keeps([], qs("1 2")), True)
        self.assertIs(keeps([], []), True)

    def test_row_of_noughts(self):
        self.assertIs(keeps([row("0 0: 0")], qs("1 2")), True)
        self.assertIs(keeps([row("0 0: 1")], qs("1 2")), False)

    def test_as_many_numbers_as_shares(self):
        self.assertIs(keeps([row("1 0: 1")], qs("1")), False)
        self.assertIs(keeps([row("1 0: 1")], qs("1 0 0")), False)

    def test_tuples_may_be_handed_in(self):
        self.assertIs(keeps(tuple(self.ROWS), tuple(qs("1 2 1"))), True)


class Holds(unittest.TestCase):
    def test_by_its_numbers(self):
        for text, told in [
            ("pin a 1 2", True), ("pin a 1 3", False), ("pin a 2 2", False), ("level a b", False), ("off a b 3 4", True),
            ("off b a 3 4", False), ("off b a -3 -4", True), ("like a b c d", True), ("like a b d c", False),
            ("reach h 2", True), ("reach h -2", False), ("big k h 3/2", True), ("big h k 3/2", False),
            ("part c a b -1/3", False), ("mirror a b c", False),
        ]:
            self.assertIs(holds(FLAT, wish(text)), told, text)

    def test_each_word_held_and_not(self):
        sheet = built(
            "peg a 0 0", "peg b 2 4", "peg c 1 2", "peg d 5 0", "peg e 1 6", "peg f 10 0", "hoop h a 2", "hoop k d 5",
            "peg n 0 2", "peg w -2 0", "peg s 0 -2", "peg o 2 0",
        )
        for text in [
            "pin b 2 4", "level a d", "plumb c e", "off c b 1 2", "part c a b 1/2", "like a c c b", "turn a c c w",
            "mirror a f d", "reach k 5", "big k h 5/2", "side h east o", "side h north n", "side h west w", "side h south s",
        ]:
            if text.startswith("turn"):
                self.assertIs(holds(sheet, wish("turn a c c w")), False)
                self.assertIs(holds(sheet, wish("turn a o a n")), True)
                self.assertIs(holds(sheet, wish("turn a n a w")), True)
                self.assertIs(holds(sheet, wish("turn a n a o")), False)
                continue
            self.assertIs(holds(sheet, wish(text)), True, text)
        for text in [
            "pin b 4 2", "level a b", "plumb a b", "off b c 1 2", "part c b a 1/3", "like a c b c", "mirror a d f",
            "reach k -5", "big h k 5/2", "side h west o", "side h south n", "side h east w", "side h north s",
        ]:
            self.assertIs(holds(sheet, wish(text)), False, text)


class Handing(unittest.TestCase):
    def test_by_names(self):
        told = wish("off a b 3 4")
        self.assertEqual(rows_of(sheet=FLAT, wish=told), rows_of(FLAT, told))
        self.assertEqual(rows_by(sheet=FLAT), [])
        self.assertIs(keeps(rows=rows_of(FLAT, told), numbers=values(FLAT)), True)
        self.assertIs(holds(sheet=FLAT, wish=told), True)

    def test_nothing_is_changed_and_all_is_told_again(self):
        sheet = changed(FLAT, "wish w off a b 3 4")
        before = all_of(sheet)
        rows, numbers = rows_by(sheet), values(sheet)
        kept = (list(rows), list(numbers))
        keeps(rows, numbers)
        self.assertEqual((rows, numbers), kept)
        rows.clear()
        self.assertEqual(rows_by(sheet), kept[0])
        self.assertEqual(all_of(sheet), before)


if __name__ == "__main__":
    unittest.main()
