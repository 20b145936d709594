"""Promise 17: texts of sheets and of deeds."""

import unittest

from forms import WISHES, bad_row, is_deed_text
from making import Chance, all_of, built, deed
from pegwishes.deeds import done
from pegwishes.errors import BadRow, BadText
from pegwishes.sheets import Sheet
from pegwishes.texts import deed_in, deed_text, sheet_in, sheet_text

ROWS = [
    "tray t 1 -1/2", "tray t.u 0 0", "peg a 0 0", "peg b 4 0", "peg t.c 2 4", "peg t.u.d 3 3", "peg e 4 7/2", "peg f -2 0", "peg g 1 0",
    "peg k 1 4", "peg m 2 0", "string s b a", "string t.s t.c t.u.d", "hoop h a 2", "hoop t.g b -4", "hoop t.u.k t.c 1/3",
    "wish pin pin a 0 0", "wish level level a b", "wish plumb plumb b e", "wish off off a b 4 0", "wish part part f a b -1/2",
    "wish like like a b f m", "wish turn turn a b g k", "wish mirror mirror f b t", "wish reach reach h 2", "wish big big t.g h -2",
    "wish east side h west f", "style kind peg ink p", "style in t.u layer 3", "style at t.s shown no", "style at t.s shown no",
    "style in t shown yes", "style at h layer 0", "style kind hoop layer 9", "style kind string ink z",
]


class Case(unittest.TestCase):
    def refused(self, text, row):
        with self.assertRaises(ValueError) as caught:
            sheet_in(text)
        self.assertIs(type(caught.exception), BadRow, text)
        self.assertEqual(caught.exception.row, row, text)
        self.assertIs(type(caught.exception.row), int)

    def as_told(self, text):
        """What is read, or refused, is what is told another way."""
        row = bad_row(text)
        if row is not None:
            self.refused(text, row)
            return
        sheet = sheet_in(text)
        self.assertIs(type(sheet), Sheet)
        self.assertEqual(sheet_text(sheet), text)


class Sheets(Case):
    def test_the_bare_one(self):
        self.assertEqual(sheet_text(Sheet()), "")
        self.assertEqual(sheet_in(""), Sheet())
        self.assertIs(type(sheet_in("")), Sheet)

    def test_rows_as_they_stand(self):
        sheet = built(
            "tray t 1 -1/2", "peg t.a 2 3", "peg b 0 0", "string t.s b t.a", "hoop h t.a -5/3", "wish w off b t.a 3 5/2",
            "wish v reach h -5/3", "style at h layer 3", "style kind peg ink q", "style in t shown no", "tray u 0 0",
        )
        text = (
            "tray t 1 -1/2\npeg t.a 2 3\npeg b 0 0\nstring t.s b t.a\nhoop h t.a -5/3\ntray u 0 0\nwish w off b t.a 3 5/2\n"
            "wish v reach h -5/3\nstyle at h layer 3\nstyle kind peg ink q\nstyle in t shown no"
        )
        self.assertEqual(sheet_text(sheet), text)
        self.assertEqual(sheet_in(text), sheet)

    def test_all_kinds_words_and_rules(self):
        self.assertEqual({row.split(" ")[2] for row in ROWS if row.startswith("wish")}, set(WISHES))
        text = "\n".join(ROWS)
        self.assertIsNone(bad_row(text))
        sheet = sheet_in(text)
        self.assertEqual(sheet_text(sheet), text)
        self.assertEqual(sheet, built(*ROWS))
        self.assertEqual(sheet.wishes(), [deed(row)[1:] for row in ROWS if row.startswith("wish")])
        self.assertEqual(sheet.styles(), [deed(row)[1:] for row in ROWS if row.startswith("style")])

    def test_numbers_of_any_size(self):
        for value in [(7 ** 6000, 10 ** 5000), (-(10 ** 40) + 1, 10 ** 40 - 3), (10 ** 4400, 1), (-1, 3 ** 9000), (-5, 2), (0, 1)]:
            sheet = done(built("peg a 0 0"), ("hoop", "h", "a", value))
            self.assertEqual(sheet_in(sheet_text(sheet)), sheet)
            self.assertEqual(sheet_in(sheet_text(sheet)).numbers()[2], ("h", "r", value))

    def test_told_sheets_there_and_back(self):
        chance = Chance(171)
        for _ in range(25):
            sheet = chance.sheet(6)
            for _ in range(12):
                sheet = chance.walked(sheet)
                text = sheet_text(sheet)
                self.assertIsNone(bad_row(text))
                self.assertEqual(sheet_in(text), sheet)
                self.assertEqual(all_of(sheet_in(text)), all_of(sheet))

    def test_each_beginning_of_a_text_is_one(self):
        for many in range(len(ROWS) + 1):
            self.assertEqual(sheet_text(sheet_in("\n".join(ROWS[:many]))), "\n".join(ROWS[:many]))


class RowsOtherwise(Case):
    TEXT = [
        "tray t 1 1", "peg t.a 0 1/2", "peg b 3 0", "string s t.a b", "hoop h b -2", "wish w pin b 3 0", "wish v off b t.a -2 3/2",
        "style in t ink q", "style at s layer 4",
    ]

    def with_row(self, at, row, refused_at):
        self.assertEqual(bad_row("\n".join([*self.TEXT[:at], row, *self.TEXT[at + 1:]])), refused_at)
        self.refused("\n".join([*self.TEXT[:at], row, *self.TEXT[at + 1:]]), refused_at)

    def test_as_it_stands(self):
        self.assertEqual(sheet_text(sheet_in("\n".join(self.TEXT))), "\n".join(self.TEXT))

    def test_left_out(self):
        for at, refused_at in enumerate([0, 2, 2, 7, None, None, None, None, None]):
            text = "\n".join(self.TEXT[:at] + self.TEXT[at + 1:])
            if refused_at is None:
                self.as_told(text)
                sheet_in(text)
            else:
                self.refused(text, refused_at)

    def test_twice(self):
        for at in range(7):
            self.refused("\n".join([*self.TEXT[:at + 1], *self.TEXT[at:]]), at + 1)
        for at in (7, 8):
            self.assertEqual(len(sheet_in("\n".join([*self.TEXT[:at + 1], *self.TEXT[at:]])).styles()), 3)

    def test_exchanged(self):
        for at, refused_at in [(0, 0), (1, None), (2, 2), (3, None), (4, 5), (5, None), (6, 7), (7, None)]:
            rows = list(self.TEXT)
            rows[at], rows[at + 1] = rows[at + 1], rows[at]
            self.assertEqual(bad_row("\n".join(rows)), refused_at)
            self.as_told("\n".join(rows))

    def test_empty(self):
        for at in range(len(self.TEXT)):
            self.with_row(at, "", at)
        self.refused("\n".join(self.TEXT) + "\n", 9)
        self.refused("\n" + "\n".join(self.TEXT), 0)
        self.refused("\n", 0)
        self.refused(" ", 0)

    def test_blanks(self):
        for at, row in enumerate(self.TEXT):
            for other in [" " + row, row + " ", row.replace(" ", "  ", 1), row[::-1].replace(" ", "  ", 1)[::-1], row.replace(" ", "\t", 1)]:
                self.with_row(at, other, at)

    def test_words_more_or_fewer(self):
        for at, row in enumerate(self.TEXT):
            words = row.split(" ")
            self.with_row(at, row + " 1", at)
            self.with_row(at, row + " b", at)
            for many in range(len(words)):
                self.with_row(at, " ".join(words[:many]), at)
                self.with_row(at, " ".join(words[:many] + words[many + 1:]), at)
                self.with_row(at, " ".join(words[:many + 1] + words[many:]), at)

    def test_other_words(self):
        for word in ["Tray", "trays", "", "remove", "move", "stamp", "unwish", "unstyle", "do", "wishes", "Style", "0", "t"]:
            for at, row in enumerate(self.TEXT):
                self.with_row(at, " ".join([word, *row.split(" ")[1:]]), at)
        for at, row in [(0, "remove t"), (5, "move b 3 0"), (5, "unwish w"), (7, "unstyle 0"), (3, "stamp t u"), (2, "peg b 3 0\r")]:
            self.with_row(at, row, at)

    def test_numbers(self):
        for bad in ["4/2", "4/1", "3/0", "03", "-0", "+3", "3.0", "x", "", "1/-2", "-1/-2", "--3", "3/", "/3", "3/02", "1r2", "\u0663", "3e0", "-"]:
            for at, row in [(0, "tray t {} 1"), (0, "tray t 1 {}"), (1, "peg t.a {} 1/2"), (2, "peg b 3 {}"), (4, "hoop h b {}")]:
                self.with_row(at, row.format(bad), at)
            for at, row in [(5, "wish w pin b {} 0"), (5, "wish w pin b 3 {}"), (6, "wish v off b t.a {} 3/2"), (6, "wish v reach h {}")]:
                self.with_row(at, row.format(bad), at)

    def test_paths(self):
        for bad in ["", ".", "B", "b.", ".b", "b..c", "a.b.c.d", "abcdefghi", "b1", "1", "\u0430", "t.A"]:
            for at, row in [
                (0, "tray {} 1 1"), (1, "peg {} 0 1/2"), (3, "string {} t.a b"), (3, "string s {} b"), (3, "string s t.a {}"),
                (4, "hoop {} b -2"), (4, "hoop h {} -2"), (5, "wish w pin {} 3 0"), (7, "style in {} ink q"), (8, "style at {} layer 4"),
                (8, "style kind {} layer 4"),
            ]:
                self.with_row(at, row.format(bad), at)

    def test_paths_that_are_not_there_yet(self):
        for at, row in [
            (0, "tray t.t 1 1"), (1, "peg u.a 0 1/2"), (1, "string s t.a b"), (1, "hoop h b 1"), (2, "string s t.a b"), (2, "hoop h b 1"),
            (3, "string s t.a c"), (3, "string s c b"), (4, "hoop h c 2"), (5, "wish w pin c 3 0"), (6, "wish v off b c 1 1"),
            (7, "style in u ink q"), (8, "style at r layer 4"), (2, "peg t.a.b 3 0"), (2, "peg t.u.b 3 0"),
        ]:
            self.with_row(at, row, at)

    def test_paths_of_another_kind(self):
        for at, row in [
            (2, "peg t.a.b 3 0"), (3, "string s t b"), (3, "string s b t"), (3, "string s t.a t.a"), (3, "string t t.a b"), (3, "string b t.a b"),
            (4, "hoop h t -2"), (4, "hoop h s -2"), (4, "hoop s b -2"), (5, "wish w pin s 3 0"), (5, "wish w pin h 3 0"),
            (6, "wish v reach b -2"), (6, "wish v side b east t.a"), (6, "wish v side h east s"), (6, "wish v level b b"),
            (6, "wish v big h h 1"), (7, "style in s ink q"), (7, "style in b ink q"), (8, "style at t layer 4"), (8, "style kind tray layer 4"),
        ]:
            self.with_row(at, row, at)

    def test_styles(self):
        for bad in [
            "style in t ink 3", "style in t ink qq", "style in t ink Q", "style in t ink yes", "style in t layer a", "style in t layer 10",
            "style in t layer -1", "style in t layer 03", "style in t layer yes", "style in t shown y", "style in t shown 1", "style in t shown",
            "style on t ink q", "style in t color q", "style kind t ink q", "style in t layer \u0663", "style in t ink ", "style in t  q", "style IN t ink q",
        ]:
            self.with_row(7, bad, 7)

    def test_order(self):
        rows = self.TEXT
        self.refused("\n".join(rows[:5] + [rows[7]] + rows[5:7] + rows[8:]), 6)
        self.refused("\n".join(rows[:5] + [rows[5], "peg z 1 1"] + rows[6:]), 6)
        self.refused("\n".join(rows + ["peg z 1 1"]), 9)
        self.refused("\n".join(rows + ["wish z level b t.a"]), 9)
        self.refused("\n".join(rows + ["wish z reach h -2"]), 9)
        self.refused("\n".join(rows[:5] + [rows[7], "tray z 1 1"]), 6)
        self.refused("\n".join(rows[:7] + ["string z b t.a"]), 7)
        self.refused("\n".join(rows[:7] + ["hoop z b 1"]), 7)

    def test_wishes(self):
        for bad in [
            "wish w pin b 3 1", "wish w pin b 2 0", "wish w pin t.a 0 1/2", "wish W pin b 3 0", "wish abcdefghi pin b 3 0", "wish a.b pin b 3 0",
            "wish  pin b 3 0", "wish w nail b 3 0", "wish w pins b 3 0", "wish w side h up t.a", "wish w side h b east", "wish w reach h 2",
            "wish w level b t.a", "wish w plumb b t.a", "wish w part t b t.a 1/2", "wish w mirror b t t.a", "wish w side h west t.a",
            "wish w like b t.a t b", "wish w like b t.a b t.a", "wish w turn b t.a b t.a", "wish w turn b b t t.a", "wish pin b 3 0", "wish w",
        ]:
            self.with_row(5, bad, 5)
        self.with_row(6, "wish w off b t.a -2 3/2", 6)
        self.with_row(6, "wish v off t.a b -2 3/2", 6)

    def test_the_first_of_several(self):
        self.refused("peg a 0 0\npeg a 0 0\nx\nx", 1)
        self.refused("peg a 0 0\nhoop h b 1\npeg A 0 0", 1)
        self.refused("peg a 0 0\nwish w pin a 1 0\npeg", 1)
        self.refused("peg a 0 0\nwish w pin a 0 0\nstyle at b ink q\n", 2)

    def test_names_of_eight_letters_and_sides_as_names(self):
        text = "tray abcdefgh 0 0\ntray abcdefgh.abcdefgh 0 0\npeg abcdefgh.abcdefgh.abcdefgh 0 0\npeg east 5 0\nhoop pin east -5\nwish abcdefgh side pin east abcdefgh"
        self.assertEqual(sheet_text(sheet_in(text)), text)
        self.assertEqual(sheet_in(text).wishes(), [("abcdefgh", ("side", "pin", "east", "abcdefgh"))])

    def test_other_line_ends_are_none(self):
        for end in ["\r\n", "\r", "\x0b", "\x0c", "\x1c", "\u2028", "\x85"]:
            self.refused("peg a 1 1" + end + "peg b 1 1", 0)

    def test_by_chance(self):
        chance = Chance(172)
        odd = ["", "0", "1", "-1", "4/1", "2/4", "a", "t", "peg", "east", "pin", "wish", "x.y", "A", "yes", "ink", "9", "10", "  ", "h", "ta", "pa"]
        refused = 0
        for _ in range(40):
            sheet = chance.sheet(6)
            for _ in range(6):
                sheet = chance.walked(sheet)
            rows = sheet_text(sheet).split("\n")
            for _ in range(40):
                other = list(rows)
                at, spot = chance.dice.randrange(len(rows)), chance.dice.randrange(len(rows))
                words = rows[at].split(" ")
                here = chance.dice.randrange(len(words))
                what = chance.dice.randrange(7)
                if what == 0:
                    del other[at]
                elif what == 1:
                    other.insert(spot, rows[at])
                elif what == 2:
                    other[at], other[spot] = other[spot], other[at]
                elif what == 3:
                    words[here] = chance.dice.choice(odd)
                elif what == 4:
                    words[here] = chance.dice.choice(" ".join(rows).split(" "))
                elif what == 5:
                    words.insert(here, chance.dice.choice(odd))
                else:
                    del words[here]
                if what > 2:
                    other[at] = " ".join(words)
                refused += bad_row("\n".join(other)) is not None
                self.as_told("\n".join(other))
        self.assertIn(refused, range(800, 1590))


DEEDS = [
    ("tray", "t.u", (1, 2), (-3, 1)), ("peg", "abcdefgh.a.z", (0, 1), (-(10 ** 40) + 1, 10 ** 40 - 3)), ("string", "s", "a", "t.b"),
    ("hoop", "h", "a", (-7, 3)), ("remove", "t.u.d"), ("stamp", "t", "v.w"), ("unwish", "w"), ("move", "t.c", (5, 1), (1, 9)),
    ("wish", "w", ("pin", "a", (1, 1), (1, 2))), ("wish", "w", ("level", "a", "b")), ("wish", "w", ("plumb", "a", "b")),
    ("wish", "w", ("off", "a", "b", (1, 1), (-1, 2))), ("wish", "w", ("part", "m", "p", "q", (1, 3))),
    ("wish", "w", ("like", "a", "b", "c", "d")), ("wish", "w", ("turn", "a", "b", "c", "d")), ("wish", "w", ("mirror", "a", "b", "c")),
    ("wish", "w", ("reach", "h", (0, 1))), ("wish", "w", ("big", "h", "g", (-2, 3))), ("wish", "w", ("side", "h", "south", "a")),
    ("wish", "w", ("side", "h", "east", "east")), ("style", "kind", "peg", "ink", "q"), ("style", "in", "t.u", "layer", 0),
    ("style", "at", "s", "shown", "no"), ("style", "at", "s", "shown", "yes"), ("style", "kind", "hoop", "layer", 9), ("unstyle", 0), ("unstyle", 10),
]
TEXTS = [
    "tray t.u 1/2 -3", "peg abcdefgh.a.z 0 -" + "9" * 40 + "/" + "9" * 39 + "7", "string s a t.b", "hoop h a -7/3", "remove t.u.d", "stamp t v.w",
    "unwish w", "move t.c 5 1/9", "wish w pin a 1 1/2", "wish w level a b", "wish w plumb a b", "wish w off a b 1 -1/2", "wish w part m p q 1/3",
    "wish w like a b c d", "wish w turn a b c d", "wish w mirror a b c", "wish w reach h 0", "wish w big h g -2/3", "wish w side h south a",
    "wish w side h east east", "style kind peg ink q", "style in t.u layer 0", "style at s shown no", "style at s shown yes",
    "style kind hoop layer 9", "unstyle 0", "unstyle 10",
]


class Deeds(unittest.TestCase):
    def refused(self, text):
        with self.assertRaises(ValueError) as caught:
            deed_in(text)
        self.assertIs(type(caught.exception), BadText, text)
        self.assertEqual(caught.exception.text, text)

    def test_there_and_back(self):
        self.assertEqual({told[0] for told in DEEDS}, set("tray peg string hoop remove stamp wish unwish move style unstyle".split()))
        self.assertEqual({told[2][0] for told in DEEDS if told[0] == "wish"}, set(WISHES))
        for told, text in zip(DEEDS, TEXTS, strict=True):
            self.assertTrue(is_deed_text(text), text)
            self.assertEqual(deed_text(told), text)
            self.assertEqual(deed_in(text), told)
            self.assertIs(type(deed_in(text)), tuple)
            self.assertEqual(deed(text), told)

    def test_kinds(self):
        self.assertIs(type(deed_in("style at s layer 7")[4]), int)
        self.assertIs(type(deed_in("unstyle 7")[1]), int)
        self.assertIs(type(deed_in("wish w level a b")[2]), tuple)
        self.assertIs(type(deed_in("tray a 1 1")[2]), tuple)

    def test_of_any_paths_names_and_values(self):
        for text, told in [
            ("string a a a", ("string", "a", "a", "a")), ("stamp a a", ("stamp", "a", "a")), ("hoop a a 1", ("hoop", "a", "a", (1, 1))),
            ("wish w like a a a a", ("wish", "w", ("like", "a", "a", "a", "a"))), ("wish pin pin pin 0 0", ("wish", "pin", ("pin", "pin", (0, 1), (0, 1)))),
            ("style kind tray ink 3", ("style", "kind", "tray", "ink", 3)), ("style kind t.u layer yes", ("style", "kind", "t.u", "layer", "yes")),
            ("style at peg shown y", ("style", "at", "peg", "shown", "y")), ("style in abcdefgh shown 0", ("style", "in", "abcdefgh", "shown", 0)),
            ("style in a layer no", ("style", "in", "a", "layer", "no")), ("style in a ink no", ("style", "in", "a", "ink", "no")),
            ("unstyle " + "9" * 5000, ("unstyle", 10 ** 5000 - 1)), ("unwish abcdefgh", ("unwish", "abcdefgh")),
        ]:
            self.assertTrue(is_deed_text(text), text)
            self.assertEqual(deed_in(text), told)
            self.assertEqual(deed_text(told), text)

    def test_texts_of_rules_that_are_none(self):
        self.assertEqual(deed_text(("style", "kind", "peg", "layer", 12)), "style kind peg layer 12")
        self.assertEqual(deed_text(("remove", "A b")), "remove A b")
        self.assertEqual(deed_text(("style", "x")), "style x")

    def test_words_and_counts_that_there_are_not(self):
        for text in TEXTS:
            words = text.split(" ")
            for other in [text + " a", text + " 1", text + " ", " " + text, text + "\n", text.replace(" ", "  ", 1), text.upper(), "x" + text, "x " + text]:
                self.refused(other)
            for many in range(len(words)):
                self.refused(" ".join(words[:many]))
        for text in [
            "", " ", "\n", "do a", "new a", "put a remove b", "wish", "wish w", "wish w pin", "wish w nail a", "wish pin a 0 0", "undo", "removed a",
            "style", "unstyle", "remove", "style at s", "wish w wish a b", "tray", "tray a 1", "tray a 1 1 1", "remove a b", "a", "remove\ta", "remove a\r",
        ]:
            self.refused(text)

    def test_paths_and_names_that_are_none(self):
        for bad in ["", ".", "A", "a.", ".a", "a..b", "a.b.c.d", "abcdefghi", "a1", "1", "0", "-", "a-b", "a_b", "\u00e9", "\u0430", "a,b", "a\n"]:
            for text in [
                "tray {} 1 1", "peg {} 1 1", "string {} a b", "string s {} b", "string s a {}", "hoop {} a 1", "hoop h {} 1", "remove {}", "stamp {} a",
                "stamp a {}", "move {} 1 1", "wish w pin {} 0 0", "wish w level a {}", "wish w reach {} 1", "wish w big h {} 1", "wish w side {} east a",
                "wish w side h east {}", "wish w part m p {} 1", "style at {} ink q", "style kind {} ink q", "wish {} pin a 0 0", "unwish {}",
            ]:
                self.refused(text.format(bad))
        for bad in ["a.b", "a.b.c"]:
            self.refused(f"wish {bad} pin a 0 0")
            self.refused(f"unwish {bad}")

    def test_numbers_that_are_none(self):
        for bad in ["4/2", "4/1", "3/0", "03", "-0", "+3", "3.0", "x", "", "1/-2", "--3", "3/", "/3", "3/02", "1r2", "\u0663", "-", "(1, 1)"]:
            for text in ["tray a {} 1", "peg a 1 {}", "hoop h a {}", "move a {} 1", "move a 1 {}", "wish w pin a {} 0", "wish w big h g {}", "wish w part m p q {}"]:
                self.refused(text.format(bad))

    def test_sides_rules_and_places_that_are_none(self):
        for bad in ["up", "East", "", "a", "0", "e", "easts"]:
            self.refused(f"wish w side h {bad} a")
        for bad in ["on", "", "Kind", "kinds", "0", "a"]:
            self.refused(f"style {bad} s ink q")
        for bad in ["color", "", "Ink", "inks", "0", "a"]:
            self.refused(f"style at s {bad} q")
        for bad in ["", "qq", "Q", "10", "-1", "03", "00", "Yes", "YES", "maybe", "-", ".", "1/2", "\u0663", "\u00e9", "\u00b2", "nos"]:
            self.refused(f"style at s ink {bad}")
            self.refused(f"style at s layer {bad}")
        for bad in ["", "00", "01", "-1", "-0", "+1", "1/2", "a", "1 ", "\u0663", "1_0", "0x1", "\u00b2"]:
            self.refused(f"unstyle {bad}")

    def test_by_chance(self):
        chance = Chance(173)
        words = " ".join(TEXTS).split(" ") + ["", "4/1", "01", "A", "-0", "a.b.c.d", "10"]
        taken = 0
        for _ in range(6000):
            other = chance.dice.choice(TEXTS).split(" ")
            other[chance.dice.randrange(len(other))] = chance.dice.choice(words)
            text = " ".join(other)
            if is_deed_text(text):
                taken += 1
                self.assertEqual(deed_in(text), deed(text))
                self.assertEqual(deed_text(deed_in(text)), text)
            else:
                self.refused(text)
        self.assertIn(taken, range(1000, 4000))


class Handing(unittest.TestCase):
    def test_by_names(self):
        sheet = built("peg a 1 1")
        self.assertEqual(sheet_text(sheet=sheet), "peg a 1 1")
        self.assertEqual(sheet_in(text="peg a 1 1"), sheet)
        self.assertEqual(deed_text(deed=("remove", "a")), "remove a")
        self.assertEqual(deed_in(text="remove a"), ("remove", "a"))

    def test_nothing_is_changed_and_all_is_told_again(self):
        sheet = Chance(174).sheet(6)
        before = all_of(sheet)
        text = sheet_text(sheet)
        self.assertEqual(sheet_text(sheet), text)
        one, other = sheet_in(text), sheet_in(text)
        one.figures().clear()
        one.wishes().clear()
        self.assertEqual(one, other)
        self.assertEqual(all_of(sheet), before)


class Bounds(Case):
    def test_the_longest_texts(self):
        long = "9" * 40
        rows = [f"tray {path} -{long}/{long[1:]}7 {long}" for path in ["abcdefgh", "abcdefgh.abcdefgh", "t", "u"]]
        rows += [f"peg abcdefgh.abcdefgh.{one}bcdefgh {long} -{long}" for one in "abcdefgh"[:4]]
        rows += [f"string {one}{other} abcdefgh.abcdefgh.abcdefgh abcdefgh.abcdefgh.bbcdefgh" for one in "st" for other in "abcd"]
        rows += [f"hoop h{one} abcdefgh.abcdefgh.abcdefgh {long}" for one in "abcd"]
        rows += [f"wish w{one} reach h{one} {long}" for one in "abcd"]
        rows += [f"wish v{one} level abcdefgh.abcdefgh.abcdefgh abcdefgh.abcdefgh.bbcdefgh" for one in "abcdef"]
        rows += ["style kind peg layer 9", "style at ha ink q"] * 5
        self.as_told("\n".join(rows))
        self.assertEqual(len(sheet_in("\n".join(rows)).numbers()), 20)
        self.refused("\n".join(rows + ["style at hz ink q"] * 10), len(rows))


if __name__ == "__main__":
    unittest.main()
