"""Promise 1, (a) to (g), from end to end: on boards with several sheets, whatever was done on them."""

import unittest
from fractions import Fraction

from making import REFUSED, Chance, can_be_kept, deed, dot, fractions, loose, rank, rows_told, rows_told_by, values
from pegwishes.boards import Board
from pegwishes.cells import at_cell, cells, cells_of, led_by, marks
from pegwishes.deeds import done
from pegwishes.errors import Clash, Known, NoSheet
from pegwishes.firm import firm_paper, held_by, shows_firm, shows_sway, sway_of, ways
from pegwishes.hangs import hangs_by, hangs_of
from pegwishes.lots import lot_paper, shows_lot
from pegwishes.near import near_paper, shows_near
from pegwishes.sheets import Sheet
from pegwishes.stories import page, shows_story, told_story
from pegwishes.strokes import strokes, strokes_in, strokes_text
from pegwishes.texts import deed_in, deed_text, sheet_in, sheet_text

START = [
    "tray t 1 1", "tray t.u -2 0", "peg a 0 0", "peg t.b 2 1/2", "peg t.u.c 1 3", "peg d 5 -1", "string s a t.b", "string t.r t.b t.u.c",
    "hoop h a 2", "hoop t.g t.b -3/2",
]


class Walk:
    """Deeds by chance on a board of several sheets, and for each sheet the deeds that made it."""

    def __init__(self, seed):
        self.chance = Chance(seed)
        self.board = Board()
        self.pasts = [{}]
        self.undone = []
        self.refused = []
        self.do("new", "one")
        for row in START:
            self.put("one", deed(row))
        self.do("copy", "one", "two")
        self.do("new", "three")
        for row in START[:6]:
            self.put("three", deed(row))

    def do(self, word, *things):
        getattr(self.board, word)(*things)
        past = {name: list(deeds) for name, deeds in self.pasts[-1].items()}
        if word == "new":
            past[things[0]] = []
        if word == "drop":
            del past[things[0]]
        if word == "copy":
            past[things[1]] = list(past[things[0]])
        if word == "put":
            past[things[0]].append(things[1])
        self.pasts.append(past)
        self.undone = []

    def put(self, name, told):
        self.do("put", name, told)

    def back(self):
        if self.board.undo():
            self.undone.append(self.pasts.pop())

    def again(self):
        if self.board.redo():
            self.pasts.append(self.undone.pop())

    def drawn(self, name):
        """A deed of a sheet, more often one that draws than another."""
        sheet, turn = self.board.sheet(name), self.chance.dice.randrange(10)
        places = [figure[1] for figure in sheet.figures() if figure[0] in ("tray", "peg")]
        if turn < 6 and len(places) > 3:
            fresh = [one for one in "abcdefghijklmnopqrstuvwxyz" if one not in [wish for wish, _ in sheet.wishes()]]
            return ("wish", fresh[0], self.chance.wish(sheet))
        if turn < 8 and places:
            return ("move", self.chance.dice.choice(places), self.chance.number(), self.chance.number())
        return self.chance.deed(sheet)

    def steps(self, many):
        """The triples (name, sheet ahead, deed) of what is put, one by one; after each the board is behind it."""
        for _ in range(many):
            turn = self.chance.dice.randrange(12)
            if turn == 0:
                self.back()
            elif turn == 1:
                self.again()
            elif turn == 2 and len(self.board) < 6:
                self.do("copy", self.chance.dice.choice(self.board.names()), "n" + "abcdefghijklmnop"[len(self.pasts) % 16] + "x" * (len(self.board) - 2))
            name = self.chance.dice.choice(self.board.names())
            if len(self.pasts[-1][name]) > 23:
                continue
            sheet, told = self.board.sheet(name), self.drawn(name)
            try:
                self.put(name, told)
            except Clash as caught:
                self.refused.append((name, told))
                yield name, sheet, told, caught.lot
            except REFUSED:
                continue
            else:
                yield name, sheet, told, None

    def all_sheets(self):
        return [self.board.sheet(name) for name in self.board.names()]


def aim(told):
    """The wish of a wish or of a hand."""
    return told[2] if told[0] == "wish" else ("pin", *told[1:])


def placed(sheet):
    return [figure[1] for figure in sheet.figures() if figure[0] != "string"]


class A(unittest.TestCase):
    """A sheet told keeps all its wishes; one that a wish or a hand changed is the nearest, and a paper shows it."""

    def test_all_wishes_are_kept(self):
        walk = Walk(11)
        many = 0
        for _ in walk.steps(60):
            for sheet in walk.all_sheets():
                for shares, right in rows_told_by(sheet):
                    self.assertEqual(dot(shares, fractions(values(sheet))), right)
                    many += 1
        self.assertGreater(many, 300)

    def test_the_nearest_of_all(self):
        walk = Walk(12)
        many = 0
        for name, sheet, told, lot in walk.steps(60):
            if lot is not None or told[0] not in ("wish", "move"):
                continue
            after = walk.board.sheet(name)
            lines = rows_told_by(sheet) + rows_told(sheet, aim(told))
            own, numbers = fractions(values(sheet)), fractions(values(after))
            for shares, right in lines:
                self.assertEqual(dot(shares, numbers), right)
            change = [new - old for new, old in zip(numbers, own)]
            for more in loose([shares for shares, _ in lines], len(own)):
                # What is upright on all that may still change is the least.
                self.assertEqual(dot(change, more), 0)
                for part in (Fraction(1), Fraction(-1, 5)):
                    other = [one + part * two for one, two in zip(change, more)]
                    self.assertGreater(dot(other, other), dot(change, change))
            paper = near_paper(sheet, aim(told))
            self.assertIs(shows_near(sheet, aim(told), values(after), paper), True)
            many += 1
        self.assertGreater(many, 15)


class B(unittest.TestCase):
    """A wish that can't be kept is refused with a lot of wishes, each needed."""

    def test_refused_lots(self):
        many = 0
        for seed in (21, 22, 23, 24):
            walk = Walk(seed)
            for name, sheet, told, lot in walk.steps(60):
                if told[0] not in ("wish", "move"):
                    continue
                wish = aim(told)
                rows = {other: rows_told(sheet, each) for other, each in sheet.wishes()}
                new = rows_told(sheet, wish)
                self.assertIs(lot is None, can_be_kept([row for each in rows.values() for row in each] + new))
                if lot is None:
                    continue
                many += 1
                self.assertEqual(walk.board.sheet(name), sheet)
                self.assertEqual(lot, [other for other, _ in sheet.wishes() if other in lot])
                self.assertFalse(can_be_kept([row for other in lot for row in rows[other]] + new))
                for needless in lot:
                    self.assertTrue(can_be_kept([row for other in lot if other != needless for row in rows[other]] + new))
                paper = lot_paper(sheet, wish)
                self.assertIs(shows_lot(sheet, wish, lot, paper), True)
                for fewer in [lot[1:], lot[:-1], lot + lot[:1], []]:
                    self.assertIs(shows_lot(sheet, wish, fewer, paper), False)
        self.assertGreater(many, 15)


class C(unittest.TestCase):
    """What does not hang on a wish or a hand stays; what is taken out changes nothing; away and back."""

    def test_what_does_not_hang_stays(self):
        walk = Walk(31)
        stayed = 0
        for name, sheet, told, lot in walk.steps(60):
            if lot is not None or told[0] not in ("wish", "move"):
                continue
            hung = hangs_by(sheet, aim(told))
            if told[0] == "move":
                self.assertEqual(hung, hangs_of(sheet, told[1]))
            for old, new in zip(sheet.numbers(), walk.board.sheet(name).numbers(), strict=True):
                self.assertTrue(old == new or old[:2] in hung)
                stayed += old[:2] not in hung
        self.assertGreater(stayed, 50)

    def test_other_sheets_stay(self):
        walk = Walk(32)
        before = {}
        for name, sheet, told, lot in walk.steps(60):
            before = walk.board.as_of(walk.board.deeds() - (lot is None))
            self.assertEqual(before.sheet(name), sheet)
            for other in walk.board.names():
                if other != name:
                    self.assertEqual(walk.board.sheet(other), before.sheet(other))

    def test_a_wish_taken_out_changes_no_number(self):
        walk = Walk(33)
        for _ in walk.steps(60):
            pass
        many = 0
        for name in walk.board.names():
            for wish, _ in walk.board.sheet(name).wishes():
                numbers = walk.board.sheet(name).numbers()
                walk.put(name, ("unwish", wish))
                self.assertEqual(walk.board.sheet(name).numbers(), numbers)
                many += 1
        self.assertGreater(many, 5)

    def test_away_and_back(self):
        walk = Walk(34)
        many = 0
        for _ in walk.steps(50):
            name = walk.chance.dice.choice(walk.board.names())
            sheet = walk.board.sheet(name)
            path = walk.chance.dice.choice([figure[1] for figure in sheet.figures() if figure[0] in ("tray", "peg")])
            board = walk.board.twin()
            away = [walk.chance.number() for _ in range(2)]
            try:
                board.put(name, ("move", path, *away))
            except Clash:
                continue
            alone = board.sheet(name)
            board.undo()
            for _ in range(3):
                try:
                    board.put(name, ("move", path, walk.chance.number(), walk.chance.number()))
                except Clash:
                    continue
            board.put(name, ("move", path, *away))
            self.assertEqual(board.sheet(name), alone)
            board.put(name, ("move", path, *sheet.place(path)))
            self.assertEqual(board.sheet(name), sheet)
            self.assertEqual(board, walk.board)
            many += 1
        self.assertGreater(many, 20)


class D(unittest.TestCase):
    """A place is firm, or it may sway: a paper shows either, never both."""

    def test_firm_or_sway(self):
        found = {True: 0, False: 0}
        for seed in (41, 42):
            walk = Walk(seed)
            for _ in walk.steps(60):
                pass
            for sheet in walk.all_sheets():
                lines = [shares for shares, _ in rows_told_by(sheet)]
                for path in placed(sheet):
                    paper, changes = firm_paper(sheet, path), sway_of(sheet, path)
                    firm = ways(sheet, path) == 0
                    self.assertEqual((paper is None, changes is None), (not firm, firm))
                    self.assertIs(shows_firm(sheet, path, paper), firm)
                    self.assertIs(shows_sway(sheet, path, changes), not firm)
                    found[firm] += 1
                    if not firm:
                        self.assertEqual([dot(line, fractions(changes)) for line in lines], [0] * len(lines))
        self.assertGreater(min(found.values()), 4)


class E(unittest.TestCase):
    """All printings show one sheet."""

    def boards(self):
        for seed in (51, 52, 53):
            walk = Walk(seed)
            for _ in walk.steps(40):
                pass
            yield walk

    def test_text_strokes_and_cells_agree(self):
        window = {"left": -6, "low": -6, "wide": 14, "high": 14}
        for walk in self.boards():
            for name, sheet in zip(walk.board.names(), walk.all_sheets()):
                read = sheet_in(sheet_text(sheet))
                self.assertEqual(read, sheet)
                told = strokes(sheet)
                self.assertEqual(strokes(read), told)
                self.assertEqual(strokes_in(strokes_text(told)), told)
                shown = cells(sheet, **window)
                self.assertEqual(cells(read, **window), shown)
                self.assertEqual(cells_of(told, **window), shown)
                self.assertEqual(cells_of(strokes_in(strokes_text(told)), **window), shown)
                self.assertEqual(page(told_story(walk.pasts[-1][name]), **window), shown)

    def test_each_cell_leads_to_strokes_figures_and_wishes(self):
        inked = 0
        for walk in self.boards():
            for sheet in walk.all_sheets():
                told = strokes(sheet)
                paths = {stroke[1]: stroke for stroke in told}
                wishes = [name for name, _ in sheet.wishes()]
                ends = {figure[1]: figure for figure in sheet.figures()}
                for up, row in enumerate(cells(sheet, left=-3, low=-3, wide=10, high=10)):
                    for across, sign in enumerate(row):
                        cell = (across - 3, 6 - up)
                        found = [stroke[1] for stroke in told[::-1] if marks(stroke, cell)]
                        self.assertEqual(at_cell(sheet, cell), found)
                        self.assertEqual(sign, paths[found[0]][2] if found else ".")
                        if sign == ".":
                            self.assertEqual(led_by(sheet, cell), [])
                            continue
                        inked += 1
                        for path, names in led_by(sheet, cell):
                            figure = ends[path]
                            parts = {"peg": [path], "string": list(figure[2:]), "hoop": [path, *figure[2:]]}[figure[0]]
                            held = [name for part in parts for name in held_by(sheet, part)]
                            self.assertEqual(names, [name for name in wishes if name in held])
        self.assertGreater(inked, 200)

    def test_held_by_those_without_which_there_are_more_ways(self):
        many = 0
        for walk in self.boards():
            sheet = walk.board.sheet("one") if "one" in walk.board.names() else walk.all_sheets()[0]
            for path in placed(sheet):
                told = [name for name, _ in sheet.wishes() if ways(done(sheet, ("unwish", name)), path) > ways(sheet, path)]
                self.assertEqual(held_by(sheet, path), told)
                many += len(told)
        self.assertGreater(many, 2)


class F(unittest.TestCase):
    """Undone, all is as ahead; done again, as behind; what is refused changes nothing but the log."""

    def test_undo_and_redo(self):
        walk = Walk(61)
        for _ in walk.steps(40):
            pass
        board = walk.board
        texts = []
        for many in range(board.deeds(), -1, -1):
            past = walk.pasts[many]
            texts.append({name: sheet_text(board.sheet(name)) for name in board.names()})
            self.assertEqual(sorted(past), board.names())
            self.assertEqual(board, board.as_of(many))
            self.assertIs(board.undo(), many > 0)
        for told in texts[-2::-1]:
            self.assertIs(board.redo(), True)
            self.assertEqual({name: sheet_text(board.sheet(name)) for name in board.names()}, told)
        self.assertIs(board.redo(), False)

    def test_refused_deeds_change_nothing_but_the_log(self):
        walk = Walk(62)
        many = 0
        for _ in walk.steps(40):
            board = walk.board
            other = board.twin()
            logged, deeds = board.log(), board.deeds()
            name = walk.chance.dice.choice(board.names())
            told = walk.chance.deed(board.sheet(name))
            try:
                board.do([("new", "zz"), ("put", name, told), ("drop", "zz"), ("drop", name), ("put", name, ("remove", "a"))])
                self.fail("not refused")
            except (Known, NoSheet, *REFUSED) as caught:
                words = ["new", "put"] if not isinstance(caught, NoSheet) else ["new", "put", "drop", "drop", "put"]
            log = [("in", "do"), *[(end, word) for word in words for end in ("in", "out")], ("out", "do")]
            self.assertEqual(board.log(), logged + log)
            self.assertEqual((board, board.deeds(), board.is_open()), (other, deeds, False))
            many += 1
        self.assertGreater(many, 20)

    def test_every_deed_begins_and_ends(self):
        walk = Walk(63)
        for _ in walk.steps(60):
            depth = 0
            for end, _ in walk.board.log():
                depth += 1 if end == "in" else -1
                self.assertIn(depth, (0, 1))
            self.assertEqual(depth, 0)
            self.assertIs(walk.board.is_open(), False)
        self.assertTrue(walk.refused)


class G(unittest.TestCase):
    """The story of a sheet is shown, whatever was done, and one with anything else in it is not."""

    def stories(self, *seeds):
        for seed in seeds:
            walk = Walk(seed)
            for _ in walk.steps(60):
                pass
            for name in walk.board.names():
                yield walk.board.sheet(name), walk.pasts[-1][name]

    def test_of_all_sheets(self):
        for sheet, deeds in self.stories(71, 72, 73):
            story = told_story(deeds)
            self.assertIs(shows_story(story), True)
            text = story[-1][1] if story else ""
            self.assertEqual(text, sheet_text(sheet))
            self.assertEqual(sheet_in(text), sheet)
            self.assertEqual(page(story), cells(sheet))
            self.assertEqual([deed_in(deed_text(told)) for told in deeds], deeds)

    def test_with_refused_deeds_in_it(self):
        walk = Walk(74)
        deeds, refused = {"one": list(walk.pasts[-1]["one"])}, 0
        sheet = walk.board.sheet("one")
        while len(deeds["one"]) < 24:
            told = walk.chance.deed(sheet)
            if walk.chance.dice.randrange(2):
                told = ("wish", "q" + "abcdefghijklmnopqrstuvwxyz"[len(deeds["one"])], ("pin", "a", walk.chance.number(), walk.chance.number()))
            try:
                sheet = done(sheet, told)
            except Clash:
                refused += 1
            except REFUSED:
                continue
            deeds["one"].append(told)
        story = told_story(deeds["one"])
        self.assertIs(shows_story(story), True)
        self.assertEqual(story[-1][1], sheet_text(sheet))
        self.assertGreater(refused, 2)

    def test_with_anything_else_in_it(self):
        many = 0
        for sheet, deeds in self.stories(72):
            story = told_story(deeds)
            for at, (told, text, paper) in enumerate(story):
                others = [(told, other, paper) for other in (text + " ", text + "\nx", "", None, story[at - 1][1])]
                others += [(told, text, other) for other in ([], [(0, 1)], None, (), ([], []), [*paper, (0, 1)], story[at - 1][2], tuple(paper) if paper else [])]
                others += [(other, text, paper) for other in (("remove", "zz"), ("unstyle", 7), None, list(told), (*told, None), story[at - 1][0])]
                others += [[told, text, paper], (told, text), (told, text, paper, ()), None, told]
                for step in others:
                    if step != (told, text, paper):
                        self.assertIs(shows_story(story[:at] + [step]), False, (step, told, text, paper))
                        many += 1
            for at in range(1, len(story)):
                self.assertIs(shows_story(story[at:]), False)
        self.assertGreater(many, 1000)

    def test_one_paper_from_the_bare_sheet_on(self):
        for sheet, deeds in self.stories(71, 73):
            ahead = Sheet()
            for told, text, paper in told_story(deeds):
                after = sheet_in(text)
                if told[0] in ("wish", "move"):
                    self.assertIs(shows_near(ahead, aim(told), values(after), paper), True)
                    span = [shares for shares, _ in rows_told_by(ahead) + rows_told(ahead, aim(told))]
                    change = [new - old for new, old in zip(fractions(values(after)), fractions(values(ahead)))]
                    self.assertEqual(rank(span + [change]), rank(span))
                else:
                    self.assertEqual(after, done(ahead, told))
                ahead = after
            self.assertEqual(ahead, sheet)


if __name__ == "__main__":
    unittest.main()
