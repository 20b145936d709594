"""Promise 20: the desk."""

import re
import unittest

from forms import NAME, PATH, is_deed_text
from making import Chance, built
from pegwishes.cells import cells
from pegwishes.desk import answers
from pegwishes.errors import BadRow
from pegwishes.texts import deed_text, sheet_text

SHEET = ["tray t 1 1", "peg a 0 0", "peg t.b 2 -1/2", "hoop h a 2", "wish w off a t.b 3 1", "wish v pin a 0 0", "style at a ink q"]
PUTS = ["new s"] + ["put s " + row for row in SHEET]
DONE = ["done"] * len(PUTS)
FORMS = [
    "(new|drop|cells|text) N", "copy N N", "undo", "redo", "names", "(place|ways|held) N P", "gap N P P",
]
PATTERNS = [form.replace("N", NAME).replace("P", PATH) for form in FORMS]


def is_row(row):
    """Whether a row is so written, told another way than the program does."""
    if re.match("put " + NAME + " ", row):
        return is_deed_text(row.split(" ", 2)[2])
    return any(re.fullmatch(pattern, row, re.ASCII) for pattern in PATTERNS)


def asked(*rows):
    return answers("\n".join(rows))


class Case(unittest.TestCase):
    def told(self, rows, answer):
        """Rows, behind a sheet s, and what the last of them is answered."""
        told = asked(*PUTS, *rows)
        self.assertEqual(told[:len(PUTS)], DONE)
        self.assertEqual(len(told), len(PUTS) + len(rows))
        self.assertEqual(told[-1], answer, rows)
        for text in told:
            self.assertIs(type(text), str)

    def refused(self, text, row):
        with self.assertRaises(ValueError) as caught:
            answers(text)
        self.assertIs(type(caught.exception), BadRow, text)
        self.assertEqual(caught.exception.row, row, text)
        self.assertIs(type(caught.exception.row), int)


class Answers(Case):
    def test_of_nothing(self):
        self.assertEqual(answers(""), [])
        self.assertEqual(answers(text="names"), ["-"])
        self.assertIs(type(answers("")), list)
        self.assertIs(type(answers("names")), list)

    def test_deeds(self):
        self.told([], "done")
        self.told(["copy s r"], "done")
        self.told(["copy s r", "drop s"], "done")
        for row in [
            "tray u 1 1", "peg t.c 1/2 0", "string x a t.b", "hoop t.g t.b -3", "remove h", "stamp t u", "wish z reach h 3", "unwish w", "move h.x 1 1",
            "move a 0 0", "style kind peg layer 3", "unstyle 0",
        ]:
            self.told(["put s " + row], "refused NoFigure" if "h.x" in row else "done")

    def test_undo_and_redo(self):
        self.assertEqual(asked("undo", "redo", "new a", "undo", "undo", "redo", "redo", "names"), ["no", "no", "done", "yes", "no", "yes", "no", "a"])
        self.assertEqual(asked("new a", "undo", "new b", "redo", "names"), ["done", "yes", "done", "no", "b"])
        self.assertEqual(asked("new a", "undo", "drop b", "redo", "names"), ["done", "yes", "refused NoSheet", "yes", "a"])
        self.told(["put s move a 9 9", "undo", "undo", "place s t.b"], "3 5/6")

    def test_names(self):
        self.assertEqual(asked("names", "new b", "names", "new ab", "new a", "names", "drop b", "names"), ["-", "done", "b", "done", "done", "a ab b", "done", "a ab"])

    def test_place(self):
        self.told(["place s a"], "0 0")
        self.told(["place s t.b"], "3 1")
        self.told(["put s tray u -1/2 7", "put s peg u.c 1/3 1", "place s u.c"], "-1/6 8")
        self.told(["put s tray u -1/2 7", "place s u"], "-1/2 7")

    def test_ways(self):
        self.told(["ways s a"], "0")
        self.told(["ways s t"], "2")
        self.told(["ways s h"], "1")
        self.told(["put s peg c 0 0", "put s wish z level c a", "ways s c"], "1")
        self.told(["put s peg c 0 0", "ways s c"], "2")

    def test_held(self):
        self.told(["held s t.b"], "w v")
        self.told(["held s a"], "v")
        self.told(["held s h"], "-")
        self.told(["put s wish z reach h 2", "held s h"], "z")

    def test_gap(self):
        self.told(["gap s a t.b"], "1r10")
        self.told(["gap s a a"], "0")
        self.told(["put s peg c 0 -5/2", "gap s a c"], "5/2")
        self.told(["put s peg c 1/2 1/3", "gap s c a"], "1/6r13")

    def test_cells(self):
        sheet = built(*SHEET)
        self.told(["cells s"], "/".join(cells(sheet)))
        self.assertEqual(asked("new a", "cells a")[1], "/".join(["." * 24] * 12))
        rows = asked("new a", "put a peg p 2 10", "put a peg q 23 0", "cells a")[-1].split("/")
        self.assertEqual((len(rows), rows[1][:4], rows[11][-2:]), (12, "..o.", ".o"))
        self.assertEqual("".join(rows).count("o"), 2)

    def test_text(self):
        self.told(["text s"], "tray t 1 5/4 / peg a 0 0 / peg t.b 2 -1/4 / hoop h a 2 / wish w off a t.b 3 1 / wish v pin a 0 0 / style at a ink q")
        self.assertEqual(asked("new a", "text a", "put a peg p 1 1/2", "text a"), ["done", "-", "done", "peg p 1 1/2"])

    def test_sheets_by_chance(self):
        chance = Chance(201)
        for _ in range(10):
            sheet = chance.sheet(6)
            deeds = [(*figure, *[value for path, _, value in sheet.numbers() if path == figure[1]]) for figure in sheet.figures()]
            deeds += [("wish", *pair) for pair in sheet.wishes()]
            told = asked("new a", *["put a " + deed_text(each) for each in deeds], "text a", "cells a")
            self.assertEqual(told[:-2], ["done"] * (len(deeds) + 1))
            self.assertEqual(told[-2:], [sheet_text(sheet).replace("\n", " / "), "/".join(cells(sheet))])

    def test_each_text_is_a_new_board(self):
        self.assertEqual(asked("new a", "names"), ["done", "a"])
        self.assertEqual(asked("names", "new a"), ["-", "done"])


class Refused(Case):
    def test_each_class(self):
        for row, answer in [
            ("new s", "Known"), ("drop r", "NoSheet"), ("copy r s", "NoSheet"), ("copy r r", "NoSheet"), ("copy s s", "Known"), ("put r remove z", "NoSheet"),
            ("put r peg z.a 1 1", "NoSheet"), ("put s peg z.a 1 1", "BadPath"), ("put s stamp t t.u", "BadPath"), ("put s peg a 1 1", "Known"),
            ("put s tray t.b 1 1", "Known"), ("put s wish w reach h 3", "Known"), ("put s stamp t t", "Known"), ("put s string x a z", "NoFigure"),
            ("put s string x a a", "NoFigure"), ("put s hoop g t 1", "NoFigure"), ("put s remove z", "NoFigure"), ("put s stamp a u", "NoFigure"),
            ("put s move h 1 1", "NoFigure"), ("put s wish z reach a 1", "BadWish"), ("put s wish z level a a", "BadWish"), ("put s unwish z", "NoWish"),
            ("put s style at t ink q", "BadStyle"), ("put s style at a ink 3", "BadStyle"), ("put s style kind tray ink q", "BadStyle"), ("put s unstyle 1", "NoStyle"),
            ("place r a", "NoSheet"), ("place s z", "NoFigure"), ("place s h", "NoFigure"), ("ways r a", "NoSheet"), ("ways s z", "NoFigure"),
            ("held r a", "NoSheet"), ("held s z", "NoFigure"), ("gap r z z", "NoSheet"), ("gap s a z", "NoFigure"), ("gap s z a", "NoFigure"), ("gap s h a", "NoFigure"),
            ("cells r", "NoSheet"), ("text r", "NoSheet"),
        ]:
            self.told([row], "refused " + answer)
            self.told([row, "text s"], asked(*PUTS, "text s")[-1])

    def test_too_great(self):
        self.told(["put s peg c 1001 1", "gap s a c"], "refused TooGreat")
        self.told(["put s peg c 1001 1", "gap s c z"], "refused NoFigure")

    def test_clash_with_its_lot(self):
        self.told(["put s move t.b 9 9"], "refused Clash w v")
        self.told(["put s move a 9 9"], "refused Clash v")
        self.told(["put s wish z pin t.b 0 0"], "refused Clash w v")
        self.told(["put s wish z off t.b a 0 0"], "refused Clash w")
        self.told(["put s wish z pin t.b 0 0", "undo", "redo", "text s"], asked(*PUTS, "text s")[-1])

    def test_strings_have_no_place_and_no_ways(self):
        for row in ["place s x", "ways s x", "held s x", "gap s x a"]:
            self.told(["put s string x a t.b", row], "refused NoFigure")


class Rows(Case):
    ROWS = [
        "new a", "put a peg p 1 1/2", "put a tray t 0 0", "put a wish w pin p 3 3", "copy a b", "place a p", "ways a p", "held a p", "gap a p t", "cells b",
        "text b", "undo", "redo", "drop b", "names", "put a unstyle 10", "put a style at p layer 0",
    ]

    def test_so_written(self):
        self.assertEqual(len(asked(*self.ROWS)), len(self.ROWS))
        self.assertTrue(all(is_row(row) for row in self.ROWS))

    def bad(self, row):
        self.assertFalse(is_row(row), row)
        # An empty text has no row at all.
        if row != "":
            self.refused(row, 0)
        for at in range(0, len(self.ROWS) + 1, 4):
            self.refused("\n".join([*self.ROWS[:at], row, *self.ROWS[at:]]), at)

    def test_ahead_of_all(self):
        self.refused("new a\nnew a\ndrop z\nx", 3)
        self.refused("drop z\n\nx", 1)
        self.refused("names\nput a peg p 4/2 0\nnames\n", 1)

    def test_empty_ones(self):
        self.bad("")
        self.bad(" ")
        self.refused("\n", 0)
        self.refused("names\n", 1)
        self.refused("names\n\nnames", 1)

    def test_blanks_and_other_signs(self):
        for row in self.ROWS:
            for other in [" " + row, row + " ", row + "\t", row + "\r", "x" + row, row.upper(), row + "."]:
                self.bad(other)
            if " " in row:
                self.bad(row.replace(" ", "  ", 1))
                self.bad(row.replace(" ", "\t", 1))

    def test_words_more_or_fewer(self):
        for row in self.ROWS:
            words = row.split(" ")
            for other in [row + " a", row + " 1", *[" ".join(words[:many]) for many in range(len(words))]]:
                self.bad(other)

    def test_other_words(self):
        for row in [
            "make a", "do", "do a", "sheet a", "deeds", "log", "twin", "as_of 1", "len", "peg p 1 1", "remove p", "put peg p 1 1", "put a", "put a new b", "put a names",
            "put a put b remove p", "page a", "strokes a", "length a s", "kind a p", "name", "Names", "undo 1", "redo a", "names a", "NEW a", "put a x",
        ]:
            self.bad(row)

    def test_names_and_paths_that_are_none(self):
        for word in ["", "A", "abcdefghi", "a1", "1", "-", "\u00e9", "\u0430", "a-b"]:
            for row in [
                "new {}", "drop {}", "copy {} b", "copy a {}", "put {} remove p", "put a remove {}", "place {} p", "place a {}", "ways {} p", "ways a {}", "held {} p",
                "held a {}", "gap {} p t", "gap a {} t", "gap a p {}", "cells {}", "text {}",
            ]:
                self.bad(row.format(word))
        for row in ["new a.b", "drop a.b", "copy a.b b", "copy a b.c", "put a.b remove p", "place a.b p", "ways a.b p", "held a.b p", "gap a.b p t", "cells a.b", "text a.b"]:
            self.bad(row)
        for path in [".", "a.", ".a", "a..b", "a.b.c.d"]:
            self.bad("place a " + path)
            self.bad("gap a p " + path)

    def test_deeds_that_are_none(self):
        for row in [
            "peg p 4/2 0", "peg p 4/1 0", "peg p 1", "peg p 1 1 1", "wish w pin p 1", "wish w nail p 1 1", "wish W pin p 1 1", "unstyle 01", "unstyle -1", "unstyle",
            "style at p ink qq", "style on p ink q", "style at p color q", "wish w side h up p", "", "peg P 1 1", "stamp t", "move p 1 01",
        ]:
            self.bad("put a " + row)

    def test_by_chance(self):
        chance = Chance(202)
        words = " ".join(self.ROWS).split(" ") + ["", "4/2", "01", "A", "a.b", "a.b.c.d"]
        taken = 0
        for _ in range(4000):
            other = chance.dice.choice(self.ROWS).split(" ")
            other[chance.dice.randrange(len(other))] = chance.dice.choice(words)
            row = " ".join(other)
            if is_row(row):
                taken += 1
                self.assertEqual(len(answers(row)), 1)
            else:
                self.refused("names\n" + row, 1)
        self.assertIn(taken, range(500, 2500))


class Bounds(Case):
    def test_sixty_rows(self):
        rows = ["new abcdefgh"] + ["put abcdefgh peg p" + one + " " + "9" * 40 + " 1/" + "9" * 40 for one in "abcdefgh"]
        rows += ["copy abcdefgh " + name for name in "bcdef"] + ["cells b", "text c", "gap d pa pb", "place e pc", "held f ph", "names"] * 5
        rows += ["undo"] * 8 + ["redo"] * 8
        told = asked(*rows)
        self.assertEqual(len(rows), 60)
        self.assertEqual(told[:14], ["done"] * 14)
        self.assertEqual(told[-16:], ["yes"] * 16)
        self.assertEqual(told[14:19], ["/".join(["." * 24] * 12), " / ".join(row.removeprefix("put abcdefgh ") for row in rows[1:9]), "0", "9" * 40 + " 1/" + "9" * 40, "-"])
        self.assertEqual(told[19], "abcdefgh b c d e f")


if __name__ == "__main__":
    unittest.main()
