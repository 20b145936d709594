"""Promise 9: lots that clash."""

import itertools
import unittest

from making import (
    Chance, all_of, built, can_be_kept, changed, dot, fractions, q, qs, rows_told, values, wish,
)
from pegwishes.fracs import is_frac
from pegwishes.lots import lot_of, lot_paper, shows_lot
from pegwishes.rows import keeps, rows_of
from things import ODD

# Pegs in a ring of offs; hoops and plumbs that have nothing to do with it.
RING = built(
    "peg a 0 0", "peg b 1 0", "peg c 2 0", "peg d 5 5", "hoop h a 2", "hoop k d 1",
    "wish z off b c 1 0", "wish y reach k 1", "wish x pin a 0 0", "wish w off a b 1 0", "wish v level a b",
)
CLASHING = wish("pin c 3 0")


def rows_with(sheet, names, last):
    told = dict(sheet.wishes())
    return [row for name in names for row in rows_told(sheet, told[name])] + rows_told(sheet, last)


def lot_told(sheet, last):
    """The lot, as the document words it, by other sums."""
    names = [name for name, _ in sheet.wishes()]
    if can_be_kept(rows_with(sheet, names, last)):
        return None
    for name in list(names):
        fewer = [one for one in names if one != name]
        if not can_be_kept(rows_with(sheet, fewer, last)):
            names = fewer
    return names


def check_paper(case, sheet, last, paper):
    """Hold a paper against the words of the document."""
    names = lot_of(sheet, last)
    told = dict(sheet.wishes())
    parts = [rows_of(sheet, told[name]) for name in names] + [rows_of(sheet, last)]
    case.assertIs(type(paper), tuple)
    weights, others = paper
    rows = [row for part in parts for row in part]
    case.assertIs(type(weights), list)
    case.assertEqual(len(weights), len(rows))
    case.assertTrue(all(is_frac(one) for one in weights))
    for at in range(len(values(sheet))):
        case.assertEqual(dot(fractions(weights), [fractions(shares)[at] for shares, _ in rows]), 0)
    case.assertNotEqual(dot(fractions(weights), fractions([right for _, right in rows])), 0)
    case.assertIs(type(others), list)
    case.assertEqual(len(others), len(parts))
    for at, numbers in enumerate(others):
        case.assertIs(type(numbers), list)
        case.assertEqual(len(numbers), len(values(sheet)))
        case.assertTrue(all(is_frac(one) for one in numbers))
        for k, part in enumerate(parts):
            if k != at:
                case.assertIs(keeps(part, numbers), True)
    case.assertIs(shows_lot(sheet, last, names, paper), True)


class LotOf(unittest.TestCase):
    def test_nothing_clashes(self):
        for text in ["pin c 2 0", "pin d 9 9", "level a c", "off a c 2 0", "reach h 77", "pin d 0 5", "big h k 5"]:
            self.assertIsNone(lot_of(RING, wish(text)), text)
            self.assertIsNone(lot_paper(RING, wish(text)), text)

    def test_no_wishes(self):
        self.assertIsNone(lot_of(built("peg a 0 0"), wish("pin a 5 5")))

    def test_one(self):
        self.assertEqual(lot_of(RING, wish("reach k 2")), ["y"])
        self.assertEqual(lot_of(RING, wish("pin a 0 1")), ["x"])
        self.assertEqual(lot_of(RING, wish("off a b 1 1")), ["v"])
        self.assertEqual(lot_of(RING, wish("off a b 2 0")), ["w"])

    def test_some(self):
        self.assertEqual(lot_of(RING, CLASHING), ["z", "x", "w"])
        self.assertEqual(lot_of(RING, wish("off a c 2 1")), ["z", "v"])
        self.assertEqual(lot_of(RING, wish("pin b 7 0")), ["x", "w"])

    def test_all(self):
        sheet = built("peg a 0 0", "peg b 1 0", "peg c 2 0", "wish p pin a 0 0", "wish q off a b 1 0", "wish r off b c 1 0")
        self.assertEqual(lot_of(sheet, wish("pin c 2 1")), ["p", "q", "r"])

    def test_of_two_alike_the_first_is_left_out(self):
        sheet = built("peg a 0 0", "peg b 1 0", "wish p off a b 1 0", "wish q off b a -1 0", "wish r off a b 1 0")
        self.assertEqual(lot_of(sheet, wish("off a b 2 0")), ["r"])
        sheet = built("peg a 0 0", "peg b 1 0", "wish r off a b 1 0", "wish q off b a -1 0", "wish p pin a 0 0")
        self.assertEqual(lot_of(sheet, wish("off a b 2 0")), ["q"])

    def test_another_way_about(self):
        sheet = built(
            "peg a 0 0", "peg b 0 0", "peg c 0 0", "wish p level a c", "wish q level a b", "wish r level b c",
            "wish s pin a 0 0", "wish t pin c 0 0",
        )
        self.assertEqual(lot_of(sheet, wish("off a c 0 1")), ["s", "t"])
        self.assertEqual(lot_of(sheet, wish("off a b 0 1")), ["r", "s", "t"])
        sheet = changed(sheet, "unwish t")
        self.assertEqual(lot_of(sheet, wish("off a c 0 1")), ["q", "r"])

    def test_by_chance(self):
        chance = Chance(19)
        clashed = 0
        for _ in range(40):
            sheet = chance.sheet(8, trays=1, pegs=4, hoops=2)
            for _ in range(4):
                last = chance.wish(sheet)
                names = lot_told(sheet, last)
                self.assertEqual(lot_of(sheet, last), names)
                if names is None:
                    self.assertIsNone(lot_paper(sheet, last))
                else:
                    clashed += 1
                    check_paper(self, sheet, last, lot_paper(sheet, last))
        self.assertGreater(clashed, 40)

    def test_each_is_needed(self):
        names = lot_of(RING, CLASHING)
        self.assertFalse(can_be_kept(rows_with(RING, names, CLASHING)))
        for name in names:
            self.assertTrue(can_be_kept(rows_with(RING, [one for one in names if one != name], CLASHING)))


class Papers(unittest.TestCase):
    def test_as_worded(self):
        for text in ["pin c 3 0", "reach k 2", "off a c 2 1", "pin a 0 1"]:
            check_paper(self, RING, wish(text), lot_paper(RING, wish(text)))

    def test_known_by_hand(self):
        sheet = built("peg a 0 0", "wish p pin a 0 0")
        weights, others = lot_paper(sheet, wish("pin a 0 2"))
        self.assertEqual((weights[0], weights[2]), (q(0), q(0)))
        self.assertEqual(weights[1], q(-weights[3][0]) if weights[3][1] == 1 else (-weights[3][0], weights[3][1]))
        self.assertEqual(others, [qs("0 2"), qs("0 0")])

    def test_through_trays_and_hoops(self):
        sheet = built(
            "tray t 1 1", "peg t.a 0 0", "peg b 3 1", "hoop h t.a 2", "wish p side h east b", "wish q off t t.a 0 0",
            "wish r pin t 1 1", "wish s reach h 2",
        )
        for text, names in [("pin b 4 1", ["p", "q", "r", "s"]), ("pin b 3 2", ["p", "q", "r"]), ("off t b 2 1", ["p", "q"])]:
            self.assertEqual(lot_of(sheet, wish(text)), names)
            check_paper(self, sheet, wish(text), lot_paper(sheet, wish(text)))


class ShowsLot(unittest.TestCase):
    def setUp(self):
        self.names = lot_of(RING, CLASHING)
        self.weights, self.others = lot_paper(RING, CLASHING)

    def shows(self, names, thing):
        told = shows_lot(RING, CLASHING, names, thing)
        self.assertIs(type(told), bool)
        return told

    def paper(self):
        return (self.weights, self.others)

    def test_shown(self):
        self.assertTrue(self.shows(self.names, self.paper()))
        self.assertTrue(self.shows(tuple(self.names), self.paper()))

    def test_weights_so_many_times(self):
        for many in [-1, 3]:
            weights = [q(many * fractions([one])[0]) for one in self.weights]
            self.assertTrue(self.shows(self.names, (weights, self.others)))
        self.assertFalse(self.shows(self.names, ([q(0)] * len(self.weights), self.others)))

    def test_names_otherwise(self):
        for names in itertools.permutations(self.names):
            self.assertIs(self.shows(list(names), self.paper()), list(names) == self.names)
        for names in [[], ["z"], ["z", "x"], ["z", "z", "x"], ["z", "x", "w", "w"], ["z", "y", "x", "w"], ["z", "x", "v"],
                      ["z", "x", "q"], ["z", "x", None], ["z", "x", 3], ["z", "x", ["w"]], ["z", True, "w"]]:
            self.assertFalse(self.shows(names, self.paper()), names)

    def test_names_in_no_list(self):
        for names in ["zxw", None, {"z": 1, "x": 2, "w": 3}, True, 3]:
            self.assertFalse(self.shows(names, self.paper()))

    def test_one_weight_otherwise(self):
        for at, weight in enumerate(self.weights):
            for part in [q(fractions([weight])[0] + 1), (2, 4), (True, 1), None, 1, "1", [1, 1], [weight], True]:
                weights = list(self.weights)
                weights[at] = part
                # No row of this lot is a sum of the others, so no weight can do but as many times all of them.
                self.assertFalse(self.shows(self.names, (weights, self.others)), (at, part))

    def test_weights_too_many_too_few(self):
        for weights in [self.weights[:-1], self.weights + [q(0)], [], tuple(self.weights), None, self.weights[0], "1"]:
            self.assertFalse(self.shows(self.names, (weights, self.others)))

    def test_one_number_otherwise(self):
        for at, numbers in enumerate(self.others):
            for k in range(len(numbers)):
                for part in [(2, 4), (0, 2), (True, 1), None, 1, "1", [1, 1], True]:
                    spoilt = list(numbers)
                    spoilt[k] = part
                    others = self.others[:at] + [spoilt] + self.others[at + 1:]
                    self.assertFalse(self.shows(self.names, (self.weights, others)), (at, k, part))

    def test_numbers_that_do_not_keep_the_rest(self):
        for at, one in enumerate(self.others):
            for k, other in enumerate(self.others):
                others = list(self.others)
                others[at] = other
                self.assertIs(self.shows(self.names, (self.weights, others)), at == k)
        # Moving a alone breaks x and w, of which at least one is always among the rest.
        for at in range(len(self.others)):
            others = [list(numbers) for numbers in self.others]
            others[at][0] = q(fractions(others[at])[0] + 1)
            self.assertFalse(self.shows(self.names, (self.weights, others)))
        # Moving d, which no wish of the lot has, changes nothing.
        others = [list(numbers) for numbers in self.others]
        others[0][6] = q(77)
        self.assertTrue(self.shows(self.names, (self.weights, others)))

    def test_others_too_many_too_few(self):
        others = self.others
        for spoilt in [others[:-1], others + [others[-1]], [], tuple(others), None, [tuple(one) for one in others],
                       [one[:-1] for one in others], [one + [q(0)] for one in others], others[0]]:
            self.assertFalse(self.shows(self.names, (self.weights, spoilt)))

    def test_pair_otherwise(self):
        for thing in [[self.weights, self.others], (self.others, self.weights), (self.weights,), (),
                      (self.weights, self.others, []), self.weights, self.others]:
            self.assertFalse(self.shows(self.names, thing))

    def test_anything(self):
        for thing in ODD:
            self.assertFalse(self.shows(self.names, thing))
            self.assertFalse(self.shows(self.names, (thing, self.others)))
            self.assertFalse(self.shows(self.names, (self.weights, thing)))
            self.assertFalse(self.shows([], thing))
            for at in range(4):
                others = list(self.others)
                others[at] = thing
                self.assertFalse(self.shows(self.names, (self.weights, others)))

    def test_of_a_wish_that_can_be_kept(self):
        self.assertIs(shows_lot(RING, wish("pin c 2 0"), self.names, self.paper()), False)
        self.assertIs(shows_lot(RING, wish("reach k 2"), self.names, self.paper()), False)
        self.assertIs(shows_lot(RING, wish("pin c 2 0"), [], ([q(0), q(0)], [values(RING)])), False)

    def test_not_needed(self):
        # A wish too many clashes as well, but the others cannot be kept without it.
        weights = self.weights[:2] + [q(0)] + self.weights[2:]
        for numbers in self.others + [values(RING)]:
            others = [self.others[0], numbers] + self.others[1:]
            self.assertFalse(self.shows(["z", "y", "x", "w"], (weights, others)))

    def test_another_lot_of_the_same_wish(self):
        sheet = built("peg a 0 0", "peg b 1 0", "wish p off a b 1 0", "wish r off a b 1 0")
        last = wish("off a b 2 0")
        self.assertEqual(lot_of(sheet, last), ["r"])
        paper = lot_paper(sheet, last)
        self.assertIs(shows_lot(sheet, last, ["r"], paper), True)
        self.assertIs(shows_lot(sheet, last, ["p"], paper), True)
        self.assertIs(shows_lot(sheet, last, ["p", "r"], paper), False)


class Handing(unittest.TestCase):
    def test_by_names(self):
        self.assertEqual(lot_of(sheet=RING, wish=CLASHING), ["z", "x", "w"])
        paper = lot_paper(sheet=RING, wish=CLASHING)
        self.assertIs(shows_lot(sheet=RING, wish=CLASHING, names=["z", "x", "w"], thing=paper), True)

    def test_nothing_is_changed_and_all_is_told_again(self):
        before = all_of(RING)
        names, paper = lot_of(RING, CLASHING), lot_paper(RING, CLASHING)
        kept = repr((names, paper))
        shows_lot(RING, CLASHING, names, paper)
        self.assertEqual(repr((names, paper)), kept)
        self.assertEqual((lot_of(RING, CLASHING), lot_paper(RING, CLASHING)), (names, paper))
        self.assertIs(type(names), list)
        lists = [names, lot_of(RING, CLASHING), paper[0], paper[1], *paper[1]]
        self.assertEqual(len({id(one) for one in lists}), len(lists))
        for one in lists:
            one.clear()
        self.assertEqual(all_of(RING), before)
        self.assertEqual(lot_of(RING, CLASHING), ["z", "x", "w"])

    def test_fractions_at_the_ends(self):
        big = 10 ** 40 - 1
        sheet = changed(
            built("peg a 0 0", "peg b 1 0", "peg c 2 0"), ("wish", "p", ("part", "a", "b", "c", (big, big - 1))),
            ("wish", "q", ("pin", "b", (1, big), (big, 1))), ("wish", "r", ("pin", "c", (big, 7), (1, big - 2))),
        )
        last = ("pin", "a", (5, 1), (1, big))
        self.assertEqual(lot_of(sheet, last), ["p", "q", "r"])
        check_paper(self, sheet, last, lot_paper(sheet, last))


if __name__ == "__main__":
    unittest.main()
