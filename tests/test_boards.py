"""Promise 18: boards."""

import unittest
from unittest import mock

from making import REFUSED, Chance, all_of, built, changed, deed, q
from pegwishes.boards import Board
from pegwishes.deeds import done
from pegwishes.errors import BadPath, BadStyle, BadWish, Clash, Known, NoDeed, NoFigure, NoSheet, NoStyle, NoWish
from pegwishes.sheets import Sheet

ROWS = ["tray t 1 1", "peg a 0 0", "peg t.b 2 0", "hoop h a 2", "wish w off a t.b 3 1", "wish v pin a 0 0", "style at a ink q"]
ENDS = {"new": ("a",), "drop": ("a",), "copy": ("a", "b"), "put": ("a", ("remove", "x")), "do": ([],), "undo": (), "redo": ()}


def board_of(**sheets):
    """A board with sheets of rows."""
    board = Board()
    for name, rows in sheets.items():
        board.new(name)
        for row in rows:
            board.put(name, deed(row))
    return board


def all_on(board):
    """All that a board tells but its log."""
    states = [{name: all_of(many.sheet(name)) for name in many.names()} for many in [board.as_of(at) for at in range(board.deeds() + 1)]]
    return (board.names(), states, board.deeds(), len(board), repr(board), bool(board), board.is_open())


class Case(unittest.TestCase):
    def refused(self, call, kind, **field):
        with self.assertRaises(kind) as caught:
            call()
        self.assertIs(type(caught.exception), kind)
        for name, value in field.items():
            self.assertEqual(getattr(caught.exception, name), value)
            self.assertIs(type(getattr(caught.exception, name)), type(value))

    def refused_by(self, board, call, kind, log, **field):
        """A refused deed changes nothing but the log, and leaves what can be done again."""
        before, logged = all_on(board), board.log()
        again = board.twin()
        self.refused(call, kind, **field)
        self.assertEqual(all_on(board), before)
        self.assertEqual(board.log(), logged + log)
        self.assertEqual(board, again)


def ends(*words):
    """The log of words one behind the other."""
    return [(end, word) for word in words for end in ("in", "out")]


def within(*words):
    """The log of words within a do."""
    return [("in", "do"), *ends(*words), ("out", "do")]


class Bare(Case):
    def test_a_bare_board(self):
        board = Board()
        self.assertEqual(all_on(board), ([], [{}], 0, 0, "Board(0)", False, False))
        self.assertEqual(board.log(), [])
        self.assertIs(type(board.log()), list)
        self.assertIs(type(board.names()), list)

    def test_refusals_of_a_bare_board(self):
        board = Board()
        for call, word in [(lambda: board.drop("a"), "drop"), (lambda: board.copy("a", "a"), "copy"), (lambda: board.put("a", ("remove", "a")), "put")]:
            self.refused_by(board, call, NoSheet, ends(word), name="a")
        self.refused(lambda: board.sheet("a"), NoSheet, name="a")
        self.refused(lambda: board.as_of(1), NoDeed, many=1)
        self.assertIs(board.undo(), False)
        self.assertIs(board.redo(), False)
        self.assertEqual(board.log(), ends("drop", "copy", "put", "undo", "redo"))


class Deeds(Case):
    def test_new(self):
        board = Board()
        self.assertIsNone(board.new("b"))
        self.assertEqual(board.sheet("b"), Sheet())
        board.new("a")
        board.new("abcdefgh")
        self.assertEqual(board.names(), ["a", "abcdefgh", "b"])
        self.assertEqual((len(board), repr(board), bool(board), board.deeds()), (3, "Board(3)", True, 3))

    def test_new_of_a_known_name(self):
        board = board_of(a=ROWS)
        self.refused_by(board, lambda: board.new("a"), Known, ends("new"), name="a")
        self.assertEqual(board.sheet("a"), built(*ROWS))

    def test_drop(self):
        board = board_of(a=ROWS, b=[])
        self.assertIsNone(board.drop("a"))
        self.assertEqual(board.names(), ["b"])
        self.refused(lambda: board.sheet("a"), NoSheet, name="a")
        self.refused_by(board, lambda: board.drop("a"), NoSheet, ends("drop"), name="a")
        board.new("a")
        self.assertEqual(board.sheet("a"), Sheet())

    def test_copy(self):
        board = board_of(a=ROWS)
        self.assertIsNone(board.copy("a", "b"))
        self.assertEqual(board.sheet("a"), board.sheet("b"))
        board.put("b", deed("remove a"))
        self.assertEqual(board.sheet("a"), built(*ROWS))
        self.assertEqual(board.sheet("b"), built(*ROWS, "remove a"))
        board.drop("a")
        self.assertEqual(board.names(), ["b"])

    def test_copy_refused(self):
        board = board_of(a=[], b=["peg p 1 1"])
        for one, other, kind, name in [("c", "d", NoSheet, "c"), ("c", "a", NoSheet, "c"), ("c", "c", NoSheet, "c"), ("a", "b", Known, "b"), ("a", "a", Known, "a")]:
            self.refused_by(board, lambda: board.copy(one, other), kind, ends("copy"), name=name)

    def test_put_each_deed(self):
        board = Board()
        board.new("a")
        sheet = Sheet()
        rows = ROWS + [
            "string s a t.b", "stamp t u", "move u 9 9", "style kind peg layer 3", "unstyle 0", "unwish v", "move a 1 1", "wish v level a u", "remove h", "remove t",
        ]
        for at, row in enumerate(rows):
            self.assertIsNone(board.put("a", deed(row)))
            sheet = changed(sheet, row)
            self.assertEqual(all_of(board.sheet("a")), all_of(sheet))
            self.assertEqual(board.deeds(), at + 2)
        self.assertEqual(board.log(), ends("new", *["put" for _ in rows]))

    def test_put_refused_as_the_deed_is(self):
        board = board_of(a=ROWS, b=["tray t 0 0"])
        for row, kind, field, value in [
            ("peg A 0 0", BadPath, "path", "A"), ("peg z.a 0 0", BadPath, "path", "z.a"), ("tray a 0 0", Known, "name", "a"),
            ("string s a b", NoFigure, "path", "b"), ("hoop g t 1", NoFigure, "path", "t"), ("remove z", NoFigure, "path", "z"),
            ("stamp a z", NoFigure, "path", "a"), ("stamp t t.z", BadPath, "path", "t.z"), ("wish w pin a 0 0", Known, "name", "w"),
            ("wish z pin h 0 0", BadWish, "part", 1), ("wish z pin a 1 0", Clash, "lot", ["v"]), ("move t.b 0 0", Clash, "lot", ["w", "v"]),
            ("move h 0 0", NoFigure, "path", "h"), ("unwish z", NoWish, "name", "z"), ("style at a ink 3", BadStyle, "spot", 3),
            ("unstyle 1", NoStyle, "spot", 1),
        ]:
            self.refused_by(board, lambda: board.put("a", deed(row)), kind, ends("put"), **{field: value})

    def test_put_on_no_sheet_ahead_of_all_else(self):
        board = board_of(a=ROWS)
        for told in [deed("peg A 0 0"), deed("remove z"), deed("wish w pin a 1 0"), ("style", "x"), ("unstyle", 9), deed("peg z 0 0"), ("wish", "w", None)]:
            self.refused_by(board, lambda: board.put("b", told), NoSheet, ends("put"), name="b")


class Do(Case):
    def test_of_none(self):
        board = board_of(a=["peg p 1 1"])
        before = board.twin()
        self.assertEqual(board.do([]), 0)
        self.assertEqual(board, before)
        self.assertEqual((board.deeds(), board.log()[-2:]), (3, [("in", "do"), ("out", "do")]))
        self.assertIs(board.undo(), True)
        self.assertEqual((board, board.deeds()), (before, 2))
        self.assertIs(board.redo(), True)
        self.assertEqual((board, board.deeds()), (before, 3))
        board.undo()
        self.assertEqual(board.do(deeds=()), 0)
        self.assertIs(board.redo(), False)

    def test_of_several(self):
        board = board_of(a=["peg p 1 1"])
        before, logged = all_on(board), board.log()
        deeds = [
            ("new", "b"), ("put", "b", deed("tray t 1 1")), ("copy", "a", "c"), ("put", "c", deed("move p 5 5")), ("drop", "a"), ("new", "a"),
            ("copy", "c", "d"), ("put", "b", deed("stamp t u")),
        ]
        handed = list(deeds)
        many = board.do(deeds)
        self.assertEqual((many, type(many)), (8, int))
        self.assertEqual(deeds, handed)
        self.assertEqual(board.log(), logged + within("new", "put", "copy", "put", "drop", "new", "copy", "put"))
        self.assertEqual(board.names(), ["a", "b", "c", "d"])
        self.assertEqual(board.sheet("a"), Sheet())
        self.assertEqual(board.sheet("b"), built("tray t 1 1", "stamp t u"))
        self.assertEqual(board.sheet("c"), built("peg p 5 5"))
        self.assertEqual(board.sheet("d"), built("peg p 5 5"))
        self.assertEqual(board.deeds(), 3)
        after = all_on(board)
        self.assertIs(board.undo(), True)
        self.assertEqual(all_on(board), before)
        self.assertIs(board.redo(), True)
        self.assertEqual(all_on(board), after)

    def test_as_one_by_one(self):
        one, other = Board(), Board()
        one.do([("new", "a")] + [("put", "a", deed(row)) for row in ROWS])
        other.new("a")
        for row in ROWS:
            other.put("a", deed(row))
        self.assertEqual(one, other)
        self.assertEqual((one.deeds(), other.deeds()), (1, 8))

    def test_refused_in_the_midst(self):
        board = board_of(a=ROWS, b=["peg p 1 1"])
        board.new("c")
        board.undo()
        good = [("new", "d"), ("put", "b", deed("move p 2 2")), ("drop", "b")]
        for bad, kind, field, value in [
            (("new", "a"), Known, "name", "a"), (("new", "d"), Known, "name", "d"), (("drop", "z"), NoSheet, "name", "z"), (("drop", "b"), NoSheet, "name", "b"),
            (("copy", "z", "a"), NoSheet, "name", "z"), (("copy", "a", "d"), Known, "name", "d"), (("put", "z", deed("peg A 1 1")), NoSheet, "name", "z"),
            (("put", "a", deed("peg A 1 1")), BadPath, "path", "A"), (("put", "a", deed("move t.b 9 9")), Clash, "lot", ["w", "v"]),
            (("put", "a", ("wish", "z", 3)), BadWish, "part", 0), (("put", "a", deed("unwish z")), NoWish, "name", "z"),
            (("put", "a", deed("unstyle 4")), NoStyle, "spot", 4), (("put", "a", ("style", "x")), BadStyle, "spot", 0), (("put", "a", deed("move z 0 0")), NoFigure, "path", "z"),
        ]:
            log = within(*[told[0] for told in good], bad[0])
            self.refused_by(board, lambda: board.do(good + [bad, ("drop", "y"), ("new", "a")]), kind, log, **{field: value})
            self.refused_by(board, lambda: board.do(good + [bad]), kind, log, **{field: value})
        self.refused_by(board, lambda: board.do([("new", "a"), ("new", "e")]), Known, within("new"), name="a")
        self.assertIs(board.redo(), True)
        self.assertEqual(board.names(), ["a", "b", "c"])

    def test_what_is_handed_in_is_not_kept(self):
        board = board_of(a=[])
        deeds = [("put", "a", deed("peg p 1 1"))]
        board.do(deeds)
        deeds.append(("drop", "a"))
        deeds[0] = ("drop", "a")
        self.assertEqual(board.sheet("a"), built("peg p 1 1"))
        board.undo()
        board.redo()
        self.assertEqual(board.sheet("a"), built("peg p 1 1"))


class UndoAndRedo(Case):
    def test_there_and_back_over_all_deeds(self):
        board = Board()
        told = [all_on(board)]
        for step in [
            lambda: board.new("a"), lambda: board.put("a", deed("peg p 1 1")), lambda: board.copy("a", "b"), lambda: board.put("b", deed("move p 3 4")),
            lambda: board.drop("a"), lambda: board.do([("new", "c"), ("drop", "b")]), lambda: board.do([]), lambda: board.put("c", deed("tray t 0 0")),
        ]:
            step()
            told.append(all_on(board))
        for _ in range(2):
            for before in told[-2::-1]:
                self.assertIs(board.undo(), True)
                self.assertEqual(all_on(board), before)
            self.assertIs(board.undo(), False)
            self.assertEqual(all_on(board), told[0])
            for after in told[1:]:
                self.assertIs(board.redo(), True)
                self.assertEqual(all_on(board), after)
            self.assertIs(board.redo(), False)
            self.assertEqual(all_on(board), told[-1])

    def test_redo_is_gone_after_a_deed(self):
        for call in [
            lambda board: board.new("z"), lambda board: board.drop("a"), lambda board: board.copy("a", "z"), lambda board: board.put("a", deed("peg p 1 1")),
            lambda board: board.do([]), lambda board: board.do([("new", "z")]),
        ]:
            board = board_of(a=[], b=[])
            board.undo()
            call(board)
            after = all_on(board)
            self.assertIs(board.redo(), False)
            self.assertEqual(all_on(board), after)
            self.assertEqual(board.deeds(), 2)

    def test_redo_stays_after_a_refused_deed(self):
        for call in [
            lambda board: board.new("a"), lambda board: board.drop("z"), lambda board: board.copy("z", "y"), lambda board: board.copy("a", "a"),
            lambda board: board.put("z", deed("peg p 1 1")), lambda board: board.put("a", deed("peg P 1 1")), lambda board: board.do([("new", "z"), ("new", "z")]),
        ]:
            board = board_of(a=[], b=["tray t 0 0"])
            whole = all_on(board)
            board.undo()
            board.undo()
            with self.assertRaises((Known, NoSheet, BadPath)):
                call(board)
            self.assertIs(board.redo(), True)
            self.assertIs(board.redo(), True)
            self.assertIs(board.redo(), False)
            self.assertEqual(all_on(board), whole)

    def test_a_deed_after_an_undo_stands_behind_what_is_left(self):
        board = board_of(a=["peg p 1 1", "peg q 2 2"])
        board.undo()
        board.put("a", deed("peg r 3 3"))
        self.assertEqual(board.sheet("a"), built("peg p 1 1", "peg r 3 3"))
        board.undo()
        self.assertEqual(board.sheet("a"), built("peg p 1 1"))
        board.redo()
        self.assertEqual(board.sheet("a"), built("peg p 1 1", "peg r 3 3"))

    def test_asking_keeps_what_can_be_done_again(self):
        board = board_of(a=["peg p 1 1"])
        board.undo()
        all_on(board)
        board.twin().new("z")
        board.log()
        self.assertIs(board.redo(), True)


class Logs(Case):
    def test_of_each_deed(self):
        for word, things in ENDS.items():
            board = board_of(a=["peg x 0 0"])
            logged = board.log()
            if word == "new":
                things = ("c",)
            getattr(board, word)(*things)
            self.assertEqual(board.log(), logged + ends(word))

    def test_of_refused_ones_and_where_there_is_none(self):
        for word, things in ENDS.items():
            board = Board()
            if word == "new":
                board = board_of(a=[])
            logged = board.log()
            try:
                self.assertIn(getattr(board, word)(*things), (0, False))
            except (Known, NoSheet):
                self.assertIn(word, ("new", "drop", "copy", "put"))
            self.assertEqual(board.log(), logged + ends(word))
            self.assertIs(board.is_open(), False)

    def test_undo_and_redo_their_own_two_ends_alone(self):
        board = Board()
        board.do([("new", "a"), ("new", "b")])
        logged = board.log()
        self.assertEqual(logged, within("new", "new"))
        board.undo()
        board.redo()
        board.redo()
        self.assertEqual(board.log(), logged + ends("undo", "redo", "redo"))

    def test_pairs(self):
        board = board_of(a=[])
        for pair in board.log():
            self.assertIs(type(pair), tuple)
        told = board.log()
        told.append(("in", "x"))
        told.clear()
        self.assertEqual(board.log(), ends("new"))

    def test_asks_are_not_logged(self):
        board = board_of(a=["peg p 1 1"])
        logged = board.log()
        all_on(board)
        self.assertEqual(board, board.twin())
        self.assertEqual(board.log(), logged)

    def test_undone_deeds_stay_logged(self):
        board = board_of(a=[])
        board.undo()
        self.assertEqual(board.log(), ends("new", "undo"))


class Asks(Case):
    def test_names_rising(self):
        board = board_of(b=[], ab=[], aa=[], z=[], a=[])
        self.assertEqual(board.names(), ["a", "aa", "ab", "b", "z"])
        board.names().clear()
        self.assertEqual(len(board.names()), 5)

    def test_as_of_each_number(self):
        board = board_of(a=ROWS, b=["tray t 1 1"])
        board.do([("drop", "a"), ("new", "c")])
        board.drop("b")
        board.undo()
        self.assertEqual(board.deeds(), 11)
        for many in range(12):
            other = board.as_of(many)
            self.assertIs(type(other), Board)
            self.assertEqual((other.deeds(), other.log(), other.is_open()), (many, [], False))
            self.assertIs(other.redo(), False)
            rows = ROWS[:many - 1] if many else []
            told = {"a": built(*rows)} if 0 < many < 11 else {}
            if many > 8:
                told["b"] = built(*["tray t 1 1"][:many - 9])
            if many > 10:
                told["c"] = Sheet()
            self.assertEqual({name: other.sheet(name) for name in other.names()}, told)
            for at in range(many - 1, -1, -1):
                self.assertIs(other.undo(), True)
                self.assertEqual(other, board.as_of(at))
            self.assertIs(other.undo(), False)
        # Of fewer than none there is no board, either.
        for many in [12, 13, 60, 10 ** 40, -1]:
            self.refused(lambda: board.as_of(many), NoDeed, many=many)
        self.assertIs(board.redo(), True)
        self.assertEqual(board.as_of(12).deeds(), 12)

    def test_twin(self):
        board = board_of(a=ROWS)
        board.undo()
        other = board.twin()
        self.assertEqual(other, board)
        self.assertEqual(all_on(other), all_on(board))
        self.assertEqual(other.log(), [])
        self.assertIs(other.redo(), False)
        self.assertIs(board.redo(), True)
        self.assertNotEqual(other, board)

    def test_changing_one_changes_nothing_of_the_other(self):
        board = board_of(a=ROWS, b=[])
        before, logged = all_on(board), board.log()
        for other in [board.twin(), board.as_of(board.deeds()), board.as_of(4)]:
            other.put("a", deed("peg z 1 1"))
            other.new("z")
            other.drop("a")
            other.undo()
            other.undo()
            other.copy("a", "y")
            for _ in range(5):
                other.undo()
            self.assertEqual(all_on(board), before)
            self.assertEqual(board.log(), logged)
        other = board.twin()
        told = all_on(other)
        board.put("a", deed("remove a"))
        board.undo()
        board.undo()
        board.drop("a")
        self.assertEqual(all_on(other), told)
        self.assertEqual(other.log(), [])

    def test_sheets_told_are_not_changed_by_what_comes_behind(self):
        board = board_of(a=ROWS)
        sheet = board.sheet("a")
        told = all_of(sheet)
        board.put("a", deed("remove a"))
        board.drop("a")
        self.assertEqual(all_of(sheet), told)
        sheet.figures().clear()
        sheet.wishes().clear()
        board.undo()
        board.undo()
        self.assertEqual(all_of(board.sheet("a")), told)

    def test_is_open(self):
        board = board_of(a=ROWS)
        self.assertIs(board.is_open(), False)
        with self.assertRaises(Known):
            board.new("a")
        self.assertIs(board.is_open(), False)
        with self.assertRaises(NoSheet):
            board.do([("new", "b"), ("drop", "z")])
        self.assertIs(board.is_open(), False)
        board.undo()
        self.assertIs(board.is_open(), False)


    def test_is_open_just_while_a_deed_is_at_work(self):
        board = board_of(a=[])
        for _ in range(3):
            board.undo()
            board.redo()
            board.do([])
        told = []

        def asking(sheet, each):
            told.append((board.is_open(), board.log()[-2:]))
            return done(sheet, each)

        with mock.patch("pegwishes.boards.done", side_effect=asking):
            board.put("a", deed("peg p 1 1"))
            self.assertIs(board.is_open(), False)
            board.do([("put", "a", deed("peg q 1 1")), ("put", "a", deed("peg r 1 1"))])
            self.assertIs(board.is_open(), False)
            with self.assertRaises(Known):
                board.do([("put", "a", deed("peg s 1 1")), ("put", "a", deed("peg s 1 1"))])
        self.assertEqual(told, [
            (True, [("out", "do"), ("in", "put")]), (True, [("in", "do"), ("in", "put")]), (True, [("out", "put"), ("in", "put")]),
            (True, [("in", "do"), ("in", "put")]), (True, [("out", "put"), ("in", "put")]),
        ])
        self.assertIs(board.is_open(), False)

    def test_shut_again_whatever_goes_wrong(self):
        board = board_of(a=[])
        before = all_on(board)
        with mock.patch("pegwishes.boards.done", side_effect=ArithmeticError):
            for call in [lambda: board.put("a", deed("peg p 1 1")), lambda: board.do([("new", "b"), ("put", "a", deed("peg p 1 1"))])]:
                with self.assertRaises(ArithmeticError):
                    call()
        self.assertEqual(all_on(board), before)
        self.assertEqual(board.log(), ends("new", "put") + within("new", "put"))


class Objects(Case):
    def test_same(self):
        self.assertEqual(Board(), Board())
        one, other = board_of(a=ROWS, b=[]), board_of(b=[], a=ROWS)
        self.assertIs(one == other, True)
        self.assertIs(one != other, False)
        other.put("b", deed("peg p 1 1"))
        self.assertIs(one == other, False)
        self.assertIs(one != other, True)
        other.put("b", deed("remove p"))
        self.assertEqual(one, other)
        self.assertNotEqual(one.deeds(), other.deeds())

    def test_not_the_same(self):
        board = board_of(a=["peg p 1 1"])
        for other in [board_of(b=["peg p 1 1"]), board_of(a=["peg p 1 2"]), board_of(a=["peg p 1 1"], b=[]), Board(), board_of(a=["peg q 1 1"])]:
            self.assertIs(board == other, False)
        for other in [board_of(a=["peg p 1 1", "style kind peg ink o"]), board_of(a=["peg p 1 1", "wish w pin p 1 1"])]:
            self.assertIs(board == other, False)

    def test_to_other_things(self):
        board = board_of(a=[])
        for other in [None, 0, 1, True, "Board(1)", [], ["a"], {"a": Sheet()}, (), Sheet(), board.sheet("a"), Board, object()]:
            self.assertIs(board == other, False)
            self.assertIs(board != other, True)
            self.assertIs(other == board, False)

    def test_len_repr_and_bool(self):
        board = Board()
        for many, name in enumerate("fbdace"):
            self.assertEqual((len(board), repr(board), bool(board)), (many, f"Board({many})", many > 0))
            board.new(name)
        self.assertEqual((len(board), repr(board), bool(board)), (6, "Board(6)", True))


class Handing(Case):
    def test_by_names(self):
        board = Board()
        board.new(name="a")
        board.put(name="a", deed=deed("peg p 1 1"))
        board.copy(name="a", other="b")
        board.drop(name="a")
        self.assertEqual(board.do(deeds=[("new", "c")]), 1)
        self.assertEqual(board.sheet(name="b"), built("peg p 1 1"))
        self.assertEqual(board.as_of(many=2).names(), ["a"])

    def test_told_lists_are_not_one_and_the_same(self):
        board = board_of(a=ROWS)
        self.assertIsNot(board.names(), board.names())
        self.assertIsNot(board.log(), board.log())
        lots = []
        for _ in range(2):
            with self.assertRaises(Clash) as caught:
                board.put("a", deed("move t.b 9 9"))
            self.assertEqual(caught.exception.lot, ["w", "v"])
            caught.exception.lot.clear()
            lots.append(caught.exception.lot)
        self.assertIsNot(lots[0], lots[1])


class Model:
    """A board told another way: for each deed all that came ahead is done anew."""

    def __init__(self):
        self.deeds, self.undone, self.log = [], [], []

    def sheets(self, many=None):
        told = {}
        for deeds in self.deeds[:many]:
            for each in deeds:
                told = self.after(told, each)
        return told

    def after(self, told, each):
        told = dict(told)
        word, name, *more = each
        if word != "new" and name not in told:
            raise NoSheet(name)
        if word == "new" and name in told:
            raise Known(name)
        if word == "copy" and more[0] in told:
            raise Known(more[0])
        if word == "drop":
            del told[name]
        elif word == "new":
            told[name] = Sheet()
        elif word == "copy":
            told[more[0]] = told[name]
        else:
            told[name] = done(told[name], more[0])
        return told

    def do(self, deeds, as_one):
        self.log += [("in", "do")] if as_one else []
        try:
            told = self.sheets()
            for each in deeds:
                self.log.append(("in", each[0]))
                try:
                    told = self.after(told, each)
                finally:
                    self.log.append(("out", each[0]))
            self.deeds.append(list(deeds))
            self.undone = []
        finally:
            self.log += [("out", "do")] if as_one else []


class ByChance(Case):
    def any_deed(self, chance, model):
        told = model.sheets()
        # Sheets with more on them go first, as more may come of a deed there.
        known = sorted(told, key=lambda name: -len(told[name]))[:2]
        name, other = chance.dice.choice(known * 3 + list("abc")), chance.dice.choice("abcdef")
        word = chance.dice.choice("new drop copy".split() + 20 * ["put"])
        if word == "put":
            return (word, name, chance.deed(told.get(name, Sheet())))
        return (word, name, other) if word == "copy" else (word, name if word == "drop" else other)

    def both(self, board, model, call, model_call):
        """Both are refused, with the same refusal, or neither is."""
        fault = None
        try:
            model_call()
        except (Known, NoSheet, *REFUSED) as caught:
            fault = caught
        if fault is None:
            call()
            return
        with self.assertRaises(type(fault)) as caught:
            call()
        self.assertEqual(vars(caught.exception), vars(fault))

    def test_walks(self):
        chance = Chance(181)
        for _ in range(12):
            board, model = Board(), Model()
            deeds = [("new", "a")] + [("put", "a", deed(row)) for row in ["tray t 1 1", "peg a 0 0", "peg t.b 2 0", "peg c 1 3", "hoop h a 2", "hoop k c 1"]]
            self.both(board, model, lambda: board.do(deeds), lambda: model.do(deeds, True))
            for _ in range(40):
                what = chance.dice.randrange(10)
                if what == 0:
                    self.assertIs(board.undo(), bool(model.deeds))
                    model.undone += [model.deeds.pop()] if model.deeds else []
                    model.log += ends("undo")
                elif what == 1:
                    self.assertIs(board.redo(), bool(model.undone))
                    model.deeds += [model.undone.pop()] if model.undone else []
                    model.log += ends("redo")
                elif what < 4:
                    deeds = [self.any_deed(chance, model) for _ in range(chance.dice.randrange(4))]
                    self.both(board, model, lambda: board.do(deeds), lambda: model.do(deeds, True))
                else:
                    told = self.any_deed(chance, model)
                    self.both(board, model, lambda: getattr(board, told[0])(*told[1:]), lambda: model.do([told], False))
                self.assertEqual({name: board.sheet(name) for name in board.names()}, model.sheets())
                self.assertEqual((board.deeds(), board.log(), board.is_open()), (len(model.deeds), model.log, False))
            for many in range(board.deeds() + 1):
                told = board.as_of(many)
                self.assertEqual({name: told.sheet(name) for name in told.names()}, model.sheets(many))


class Bounds(Case):
    def test_six_sheets_and_sixty_deeds(self):
        board = Board()
        chance = Chance(182)
        for name in "fedcba":
            board.new(name)
        sheet = chance.sheet(5)
        while board.deeds() < 59:
            name = "abcdef"[board.deeds() % 6]
            for figure in sheet.figures():
                if board.deeds() < 59 and figure not in board.sheet(name).figures():
                    numbers = [value for path, _, value in sheet.numbers() if path == figure[1]]
                    board.put(name, (*figure, *numbers))
                    break
        board.do([("put", "f", ("peg", "z", q(10 ** 40 - 1), (1, 10 ** 40 - 1))) for _ in range(1)])
        whole = all_on(board)
        self.assertEqual((board.deeds(), len(board)), (60, 6))
        for many in range(60):
            self.assertIs(board.undo(), True)
        self.assertIs(board.undo(), False)
        self.assertEqual(board, Board())
        for many in range(60):
            self.assertIs(board.redo(), True)
        self.assertEqual(all_on(board), whole)
        self.assertEqual(len(board.log()), 2 * 59 + 4 + 2 * 61 + 2 * 60)


if __name__ == "__main__":
    unittest.main()
