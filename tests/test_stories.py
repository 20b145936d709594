"""Promise 19: stories."""

import unittest
from unittest import mock

from making import Chance, REFUSED, all_of, built, deed, fractions, q, qs, rows_told, rows_told_by, values
from pegwishes.cells import cells
from pegwishes.deeds import done
from pegwishes.errors import BadPath, BadStyle, BadWish, Clash, Known, NoFigure, NoStyle, NoWish, TooGreat
from pegwishes.lots import lot_of, lot_paper, shows_lot
from pegwishes.near import shows_near
from pegwishes.sheets import Sheet
from pegwishes.stories import page, shows_story, told_story
from pegwishes.texts import sheet_in, sheet_text
from things import ODD

# One deed of each word, and three that are refused with Clash.
ROWS = [
    "tray t 1 1", "peg a 0 0", "peg t.b 2 0", "peg c 1 7", "string s a t.b", "hoop h a 2", "wish w off a t.b 4 1/2", "wish v reach h 5/3",
    "move t.b 9 9", "wish u pin a 1 1", "move t.b 0 0", "wish z pin t 1 1", "style at a ink q", "style in t layer 3", "wish y reach h 2",
    "unstyle 0", "stamp t r", "unwish u", "move a 2 2", "remove s", "wish x level c t.b", "move c 0 100", "wish p plumb r r.b", "move r 3 3",
]
CLASHES = {10: ["w", "u"], 14: ["v"]}


def deeds_of(rows=ROWS):
    return [deed(row) for row in rows]


STORY = told_story(deeds_of())
# The same by hand: of one peg, so that no other papers can be.
BY_HAND = [
    (("peg", "a", (0, 1), (0, 1)), "peg a 0 0", ()),
    (("wish", "w", ("pin", "a", (1, 1), (-1, 2))), "peg a 1 -1/2\nwish w pin a 1 -1/2", [(1, 1), (-1, 2)]),
    (
        ("move", "a", (5, 1), (-1, 2)), "peg a 1 -1/2\nwish w pin a 1 -1/2",
        (["w"], ([(-1, 1), (0, 1), (1, 1), (0, 1)], [[(5, 1), (-1, 2)], [(1, 1), (-1, 2)]])),
    ),
    (("unwish", "w"), "peg a 1 -1/2", ()),
    (("move", "a", (5, 1), (0, 1)), "peg a 5 0", [(4, 1), (1, 2)]),
]


def spots(thing, ahead=()):
    """The ways to all things within a thing, and to itself."""
    told = [ahead]
    if isinstance(thing, (list, tuple)):
        for at, part in enumerate(thing):
            told += spots(part, (*ahead, at))
    return told


def at_spot(thing, way):
    for at in way:
        thing = thing[at]
    return thing


def with_spot(thing, way, part):
    """The thing with another part at the end of a way."""
    if not way:
        return part
    # Of a story, what stands behind the step is left out.
    parts = list(thing[:way[0] + 1] if thing is STORY else thing)
    parts[way[0]] = with_spot(thing[way[0]], way[1:], part)
    return type(thing)(parts)


class Case(unittest.TestCase):
    def shown(self, thing):
        self.assertIs(shows_story(thing), True)

    def not_shown(self, thing):
        self.assertIs(shows_story(thing), False)

    def told_as_done(self, deeds, story):
        """Each step's text and paper, held against the sheets behind the deeds."""
        self.assertEqual([step[0] for step in story], list(deeds))
        sheet = Sheet()
        for step, (told, text, paper) in zip(story, story):
            self.assertIs(type(step), tuple)
            try:
                after, lot = done(sheet, told), None
            except Clash as caught:
                after, lot = sheet, caught.lot
            self.assertEqual(text, sheet_text(after))
            if told[0] not in ("wish", "move"):
                self.assertIs(type(paper), tuple)
                self.assertEqual(paper, ())
                sheet = after
                continue
            wish = told[2] if told[0] == "wish" else ("pin", *told[1:])
            if lot is None:
                self.near_shown(sheet, wish, after, paper)
            else:
                self.assertEqual((type(paper), len(paper), type(paper[0])), (tuple, 2, list))
                self.assertEqual(paper, (lot, lot_paper(sheet, wish)))
                self.assertEqual(lot, lot_of(sheet, wish))
                self.assertIs(shows_lot(sheet, wish, *paper), True)
            sheet = after

    def near_shown(self, sheet, wish, after, paper):
        self.assertIs(type(paper), list)
        self.assertIs(shows_near(sheet, wish, values(after), paper), True)
        lines = [shares for shares, _ in rows_told_by(sheet) + rows_told(sheet, wish)]
        changes = [new - old for new, old in zip(fractions(values(after)), fractions(values(sheet)))]
        sums = [sum(weight * line[at] for weight, line in zip(fractions(paper), lines)) for at in range(len(changes))]
        self.assertEqual(sums, changes)


class Told(Case):
    def test_each_kind_of_deed(self):
        self.assertEqual({told[0] for told in deeds_of()}, set("tray peg string hoop remove stamp wish unwish move style unstyle".split()))
        self.told_as_done(deeds_of(), STORY)
        self.assertEqual([at for at, step in enumerate(STORY) if type(step[2]) is tuple and step[2]], list(CLASHES))
        self.assertIs(type(STORY), list)
        self.shown(STORY)

    def test_refused_with_clash(self):
        for at, lot in CLASHES.items():
            self.assertEqual(STORY[at][1], STORY[at - 1][1])
            self.assertEqual(STORY[at][2][0], lot)

    def test_by_hand(self):
        story = told_story([step[0] for step in BY_HAND])
        self.shown(BY_HAND)
        for at in (0, 1, 3, 4):
            self.assertEqual(story[at], BY_HAND[at])
        self.assertEqual(story[2][:2], BY_HAND[2][:2])
        self.assertEqual(story[2][2][0], ["w"])

    def test_of_none(self):
        self.assertEqual(told_story([]), [])
        self.assertEqual(told_story(()), [])
        self.shown([])

    def test_as_many_as_there_may_be_and_more(self):
        self.assertEqual(len(ROWS), 24)
        self.assertEqual(len(STORY), 24)
        for many in [25, 26, 60]:
            for deeds in [deeds_of() + deeds_of(["move c 1 1"] * (many - 24)), [("remove", "z")] * many, [("peg", "A", q(0), q(0))] * many]:
                with self.assertRaises(OverflowError) as caught:
                    told_story(deeds)
                self.assertIs(type(caught.exception), TooGreat)
                self.assertEqual(caught.exception.many, many)

    def test_refused_otherwise(self):
        for told, kind, field, value in [
            (deed("peg A 0 0"), BadPath, "path", "A"), (deed("tray a 0 0"), Known, "name", "a"), (deed("string q a z"), NoFigure, "path", "z"),
            (deed("hoop q t 1"), NoFigure, "path", "t"), (deed("remove z"), NoFigure, "path", "z"), (deed("stamp a b"), NoFigure, "path", "a"),
            (deed("wish w pin a 9 9"), Known, "name", "w"), (("wish", "q", None), BadWish, "part", 0), (deed("wish q pin s 1 1"), BadWish, "part", 1),
            (deed("unwish q"), NoWish, "name", "q"), (deed("move s 1 1"), NoFigure, "path", "s"), (("style", "x"), BadStyle, "spot", 0),
            (deed("unstyle 0"), NoStyle, "spot", 0),
        ]:
            for behind in [[], [("remove", "y")], [deed("move a 3 3"), ("style",)]]:
                deeds = deeds_of(ROWS[:12]) + [told] + behind
                with self.assertRaises(kind) as caught:
                    told_story(deeds)
                self.assertIs(type(caught.exception), kind)
                self.assertEqual(getattr(caught.exception, field), value)

    def test_by_chance(self):
        chance = Chance(191)
        clashes = 0
        for _ in range(12):
            sheet, deeds = Sheet(), deeds_of(["tray t 1 1", "peg a 0 0", "peg t.b 2 0", "peg c 1 3", "hoop h a 2", "hoop k c 1"])
            for told in deeds:
                sheet = done(sheet, told)
            while len(deeds) < 24:
                told = chance.deed(sheet)
                if chance.dice.randrange(4) == 0:
                    told = ("wish", "x" + "abcdefghijklmnopqrstuvwxyz"[len(deeds)], ("pin", "a", chance.number(), chance.number()))
                try:
                    sheet = done(sheet, told)
                except Clash:
                    clashes += 1
                except REFUSED:
                    continue
                deeds.append(told)
            story = told_story(deeds)
            self.told_as_done(deeds, story)
            self.assertEqual(story[-1][1], sheet_text(sheet))
            for many in range(len(story) + 1):
                self.shown(story[:many])
        self.assertGreater(clashes, 10)


class Shown(Case):
    def test_beginnings(self):
        for many in range(len(STORY) + 1):
            self.shown(STORY[:many])

    def test_not_from_the_bare_sheet(self):
        for many in range(1, len(STORY)):
            self.not_shown(STORY[many:])

    def test_a_step_left_out(self):
        for at in range(len(STORY) - 1):
            if at not in CLASHES:
                self.not_shown(STORY[:at] + STORY[at + 1:])

    def test_a_step_twice(self):
        for at in range(len(STORY)):
            if at not in CLASHES:
                self.not_shown(STORY[:at + 1] + STORY[at:])

    def test_a_refused_step_is_none_or_several(self):
        for at in CLASHES:
            self.shown(STORY[:at] + STORY[at + 1:])
            self.shown(STORY[:at + 1] + STORY[at:])

    def test_steps_exchanged(self):
        for at in range(len(STORY)):
            for other in range(at):
                story = list(STORY)
                story[at], story[other] = story[other], story[at]
                self.not_shown(story)

    def test_texts_otherwise(self):
        for at, (told, text, paper) in enumerate(STORY):
            texts = {step[1] for step in STORY} - {text}
            for other in [*texts, "", text + "\n", "\n" + text, text + " ", text.replace(" ", "  ", 1), text[:-1], text.replace("\n", "\r\n"), text + "\npeg", text + "\npeg zz 0 0"]:
                if other != text:
                    self.not_shown(STORY[:at] + [(told, other, paper)] + STORY[at + 1:])
                    self.not_shown(STORY[:at] + [(told, other, paper)])

    def test_papers_of_other_steps(self):
        for at, (told, text, paper) in enumerate(STORY):
            for _, _, other in STORY:
                if other != paper:
                    self.not_shown(STORY[:at] + [(told, text, other)])

    def test_deeds_of_other_steps(self):
        for at, (told, text, paper) in enumerate(STORY):
            for other, _, _ in STORY:
                if other != told:
                    self.not_shown(STORY[:at] + [(other, text, paper)])

    def test_lists_for_tuples_and_tuples_for_lists(self):
        for story in (STORY, BY_HAND):
            for way in spots(story):
                part = at_spot(story, way)
                if isinstance(part, list):
                    self.not_shown(with_spot(story, way, tuple(part)))
                if isinstance(part, tuple):
                    self.not_shown(with_spot(story, way, list(part)))

    def test_truths_for_numbers(self):
        for story in (STORY, BY_HAND):
            for way in spots(story):
                part = at_spot(story, way)
                if part in (0, 1) and isinstance(part, int):
                    self.not_shown(with_spot(story, way, bool(part)))

    def test_other_things_anywhere(self):
        for turn, way in enumerate(spots(STORY)):
            part = at_spot(STORY, way)
            # Each place has a third of them, as all of them at each would take long.
            for other in [None, (), [], "", -1, (None,), [part], (part,), "~"][turn % 3::3]:
                # The bare story is one, and what a refused deed asks for may well be another number.
                if other != part and (way or other != []) and not (other == -1 and way and way[0] in CLASHES):
                    self.not_shown(with_spot(STORY, way, other))

    def test_numbers_and_words_otherwise(self):
        for way in spots(STORY):
            part = at_spot(STORY, way)
            # What a refused deed asks for, and numbers that keep the rest, may well be others.
            if way and way[0] in CLASHES and way[1:2] in ((0,), (2,)):
                continue
            if isinstance(part, int):
                self.not_shown(with_spot(STORY, way, part + 1))
                self.not_shown(with_spot(STORY, way, 3 * part - 700))
            if isinstance(part, str):
                self.not_shown(with_spot(STORY, way, part + "x"))
                self.not_shown(with_spot(STORY, way, "x" + part))
                if part:
                    self.not_shown(with_spot(STORY, way, part.upper()))

    def test_more_or_fewer_things(self):
        for way in spots(STORY):
            part = at_spot(STORY, way)
            if isinstance(part, (list, tuple)) and part and way:
                self.not_shown(with_spot(STORY, way, part[:-1]))
                self.not_shown(with_spot(STORY, way, part[1:]))
                self.not_shown(with_spot(STORY, way, part + part[-1:]))
                self.not_shown(with_spot(STORY, way, part + type(part)([None])))

    def test_by_hand_otherwise(self):
        told, text, (names, (weights, others)) = BY_HAND[2]
        for other in [
            (names, weights), (weights, others), (["v"], (weights, others)), ([], (weights, others)), (["w", "w"], (weights, others)), weights, [],
            (), (names, ([q(0)] * 4, others)), (names, (weights, others[::-1])), (names, (weights, others[:1])), (names, (weights[:3], others)),
            (names, (qs("-1 0 1 1"), others)), (names, (qs("1 0 1 0"), others)), (("w",), (weights, others)), (names, (weights, others), ()),
        ]:
            self.not_shown(BY_HAND[:2] + [(told, text, other)])
        for other in [(["w"], (qs("-7/3 0 7/3 0"), others)), (["w"], (qs("-1 0 1 0"), others))]:
            self.shown(BY_HAND[:2] + [(told, text, other)] + BY_HAND[3:])
        # The y's that are asked for are one, so that they do not clash.
        self.not_shown(BY_HAND[:2] + [(told, text, (names, (qs("0 -1 0 1"), others)))])

    def test_refused_otherwise_is_no_step(self):
        text = STORY[13][1]
        lot = STORY[14][2]
        for told in [
            ("remove", "z"), ("unwish", "z"), ("unstyle", 2), ("unstyle", -1), ("style", "at", "z", "ink", "q"), ("style", "x"), ("style",), ("peg", "a", q(0), q(0)),
            ("peg", "A", q(0), q(0)), ("wish", "w", ("reach", "h", q(2))), ("wish", "z", ("reach", "a", q(2))), ("move", "h", q(0), q(0)), ("string", "q", "a", "a"),
            ("stamp", "t", "t.q"), ("wish", "y", None), ("undo",), ("put", "a", ("remove", "s")), ("do", []), (), ("remove",), ("remove", "s", "s"), "remove s", None,
            ("stamp", "t", None), ("stamp", None, "q"), ("tray", "q", 1, 1), ("tray", "q", (2, 4), q(0)), ("hoop", "q", "a", None), ("unstyle", None), ("unstyle", "0"),
            ("tray", None, q(0), q(0)), ("unwish", []), ("wish", "y"), ("move", "a", q(0)), ([], "a"), (None,), ("wish", [], ("reach", "h", q(2))), (("remove", "s"),),
        ]:
            for paper in [(), [], lot]:
                self.not_shown(STORY[:14] + [(told, text, paper)])

    def test_names_of_wishes_are_names(self):
        for name in ["", "W", "a.b", "abcdefghi", "a b", "1", "\u00e9", None, 1, ("a",), "a\n"]:
            self.not_shown(STORY[:14] + [(("wish", name, STORY[14][0][2]), *STORY[14][1:])])
            self.not_shown(BY_HAND[:1] + [(("wish", name, BY_HAND[1][0][2]), f"peg a 1 -1/2\nwish {name} pin a 1 -1/2", BY_HAND[1][2])])
        self.shown(STORY[:14] + [(("wish", "abcdefgh", STORY[14][0][2]), *STORY[14][1:])])

    def test_numbers_that_keep_all_but_are_not_the_nearest(self):
        ahead = told_story(deeds_of(["peg a 0 0", "peg b 2 0"]))
        wish = ("wish", "w", ("plumb", "a", "b"))
        self.shown(ahead + [(wish, "peg a 1 0\npeg b 1 0\nwish w plumb a b", [(1, 1)])])
        for x, y in [("0", "0"), ("2", "0"), ("1", "1"), ("3/2", "0"), ("-1", "0")]:
            for weight in ["1", "2", "0", "-1", "1/2"]:
                self.not_shown(ahead + [(wish, f"peg a {x} {y}\npeg b {x} 0\nwish w plumb a b", [q(weight)])])
        self.not_shown(ahead + [(wish, "peg a 1/2 0\npeg b 3/2 0\nwish w plumb a b", [(1, 2)])])
        self.not_shown(ahead + [(wish, "peg a 1 0\npeg b 1 0", [(1, 1)])])
        self.not_shown(ahead + [(wish, "peg a 1 0\npeg b 1 0\npeg c 1 0\nwish w plumb a b", [(1, 1)])])
        self.not_shown(ahead + [(wish, "peg b 1 0\npeg a 1 0\nwish w plumb a b", [(1, 1)])])
        self.not_shown(ahead + [(wish, "peg a 1 0\npeg b 1 0\nwish w plumb b a", [(1, 1)])])
        self.not_shown(ahead + [(wish, "peg a 1 0\npeg b 1 0\nwish w plumb a b\nstyle kind peg ink o", [(1, 1)])])

    def test_a_hand_that_changes_nothing(self):
        ahead = told_story(deeds_of(["peg a 1 2"]))
        self.shown(ahead + [(("move", "a", q(1), q(2)), "peg a 1 2", qs("0 0"))])
        self.not_shown(ahead + [(("move", "a", q(1), q(2)), "peg a 1 2", ())])

    def test_things_of_any_kind(self):
        deep = STORY
        for _ in range(5):
            deep = [deep]
            self.not_shown(deep)
        for thing in ODD:
            self.assertIs(shows_story(thing), thing == [], thing)
            self.not_shown([thing])
            self.not_shown([(thing, "", ())])
            for step in STORY[0], STORY[6], STORY[10]:
                at = STORY.index(step)
                for spot in range(3):
                    if step[spot] != thing:
                        self.not_shown(STORY[:at] + [with_spot(step, (spot,), thing)])

    def test_nothing_is_worked_out(self):
        fault = AssertionError("worked out")
        names = ["near.near_paper", "near.nearest", "near.answered", "deeds.nearest", "lots.answered", "lots.clashing", "lots.lot_of", "firm.answered"]
        with mock.patch.multiple("pegwishes.stories", near_paper=mock.Mock(side_effect=fault), lot_paper=mock.Mock(side_effect=fault)):
            held = [mock.patch("pegwishes." + name, side_effect=fault) for name in names]
            for one in held:
                one.start()
            try:
                self.shown(STORY)
            finally:
                for one in held:
                    one.stop()


class Pages(Case):
    def test_of_the_last_text(self):
        for many in range(1, len(STORY) + 1):
            story = STORY[:many]
            self.assertEqual(page(story), cells(sheet_in(story[-1][1])))
        self.assertNotEqual(page(STORY), page(STORY[:4]))

    def test_windows(self):
        sheet = sheet_in(STORY[-1][1])
        window = {"left": -3, "low": -4, "wide": 12, "high": 9}
        self.assertEqual(page(STORY, **window), cells(sheet, **window))
        for name, value in window.items():
            self.assertEqual(page(story=STORY, **{name: value}), cells(sheet, **{name: value}))
        self.assertEqual(page(STORY, wide=1, high=1), [page(STORY)[-1][0]])
        told = page(STORY, left=-99, low=-99, wide=40, high=30)
        self.assertEqual((len(told), {len(row) for row in told}), (30, {40}))
        with self.assertRaises(TypeError):
            page(STORY, 0, 0)

    def test_of_none(self):
        self.assertEqual(page([]), ["." * 24] * 12)
        self.assertEqual(page([], left=-5, low=3, wide=2, high=3), [".."] * 3)

    def test_by_hand(self):
        self.assertEqual(page(BY_HAND, wide=7, high=2), [".......", ".....o."])
        self.assertEqual(page(BY_HAND[:1], wide=2, high=1), ["o."])
        self.assertEqual(page(BY_HAND[:3], low=-1, wide=3, high=2), ["...", ".o."])


class Handing(Case):
    def test_by_names(self):
        self.assertEqual(told_story(deeds=deeds_of()), STORY)
        self.assertIs(shows_story(thing=STORY), True)
        self.assertEqual(page(story=BY_HAND), page(BY_HAND))

    def test_nothing_is_changed_and_all_is_told_again(self):
        deeds = deeds_of()
        one = told_story(deeds)
        self.assertEqual(deeds, deeds_of())
        before = repr(one)
        self.shown(one)
        page(one)
        self.assertEqual(repr(one), before)
        other = told_story(tuple(deeds))
        self.assertEqual(other, one)
        for step in one:
            if isinstance(step[2], list):
                step[2].clear()
            elif step[2]:
                step[2][0].clear()
        one.clear()
        deeds.clear()
        self.assertEqual(other, STORY)
        self.shown(other)

    def test_told_lists_are_not_one_and_the_same(self):
        lists = []
        story = told_story(deeds_of())
        for way in spots(story):
            part = at_spot(story, way)
            if isinstance(part, list):
                self.assertNotIn(id(part), lists)
                lists.append(id(part))


class Bounds(Case):
    def test_numbers_of_forty_figures(self):
        great, small = 10 ** 40 - 1, 10 ** 40 - 3
        deeds = [("tray", "t", (great, small), (-great, 7))] + [("peg", "p" + one, (great - at, 1), (at, small - 2)) for at, one in enumerate("abcdefgh")]
        deeds = [deeds[0]] + [(*told[:2], q(told[2][0]), (1, 10 ** 39 + 1 + at)) for at, told in enumerate(deeds[1:])]
        deeds += [("hoop", "h", "pa", (great, small)), ("hoop", "k", "pb", (7, great))]
        for name, wish in [
            ("a", ("part", "pa", "pb", "pc", (great, small))), ("b", ("turn", "pa", "pb", "pc", "pd")), ("c", ("side", "h", "north", "pd")),
            ("d", ("big", "k", "h", (-7, small))), ("e", ("mirror", "pa", "pe", "pf")), ("f", ("off", "pg", "ph", (1, 3), (great, small))),
            ("g", ("like", "pa", "pf", "pb", "pg")), ("h", ("pin", "t", (1, 7), (great, small))), ("i", ("level", "pb", "pd")), ("j", ("reach", "k", (1, great))),
        ]:
            deeds.append(("wish", name, wish))
        deeds += [("move", "ph", (great, small), (-great, 13)), ("move", "pa", (small, great), (1, 1)), ("move", "ph", (0, 1), (0, 1))]
        self.assertEqual(len(deeds), 24)
        story = told_story(deeds)
        self.told_as_done(deeds, story)
        self.shown(story)
        self.assertEqual([(told, text) for told, text, _ in story], [(told, text) for told, text, _ in told_story(deeds)])
        for at in range(11, 24):
            told, text, paper = story[at]
            top, bottom = story[at][2][0] if isinstance(paper, list) else (0, 1)
            if isinstance(paper, list):
                self.not_shown(story[:at] + [(told, text, [q(top * 2 + 1) if bottom == 1 else (top + bottom, bottom), *paper[1:]])])


class Sheets(Case):
    def test_sheets_are_not_changed(self):
        sheet = built(*ROWS[:6])
        before = all_of(sheet)
        told_story(deeds_of())
        self.assertEqual(all_of(sheet), before)


if __name__ == "__main__":
    unittest.main()
