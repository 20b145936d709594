"""Promise 7: wishes."""

import unittest

from making import all_of, built, q, wish
from pegwishes.wishes import bad_part, is_wish
from things import ODD

SHEET = built(
    "tray t 1 1", "tray t.u 0 0", "peg a 0 0", "peg b 3 4", "peg t.c 5 6", "peg t.u.d 1 2", "string s a b", "hoop h a 2",
    "hoop t.k b 3", "peg east 1 1", "peg pin 0 0", "hoop north a 1",
)
# Each word, with things that are so: places are P, hoops H, fractions N, the side's word S.
SIGNS = {
    "pin": "PNN", "level": "PP", "plumb": "PP", "off": "PPNN", "part": "PPPN", "like": "PPPP", "turn": "PPPP",
    "mirror": "PPP", "reach": "HN", "big": "HHN", "side": "HSP",
}
PLACES = ["a", "t", "t.u.d", "b"]
NONE = ["", "z", "t.z", "a.b", "a ", "A", "t.", "x.y.z.w", None, True, 0, 1, (1, 2), ["a"], ("a",), [], ()]


def whole(word):
    """A wish of a word, all as it is to be."""
    places, hoops = list(PLACES), ["h", "t.k"]
    parts = {"P": lambda: places.pop(0), "H": lambda: hoops.pop(0), "N": lambda: (-3, 4), "S": lambda: "west"}
    return (word, *[parts[sign]() for sign in SIGNS[word]])


def with_part(told, at, part):
    return told[:at] + (part,) + told[at + 1:]


class All(unittest.TestCase):
    def check(self, told, part):
        self.assertEqual(bad_part(SHEET, told), part, told)
        self.assertIs(type(bad_part(SHEET, told)), type(part))
        self.assertIs(is_wish(SHEET, told), part is None)

    def test_eleven_words(self):
        for word in SIGNS:
            self.check(whole(word), None)

    def test_another_word(self):
        for word in SIGNS:
            for other in ["", "Pin", "pin ", "peg", "wish", "pins", None, True, 0, ["pin"], ("pin",), (1, 2)]:
                self.check(with_part(whole(word), 0, other), 0)

    def test_too_many_and_too_few(self):
        for word in SIGNS:
            told = whole(word)
            for more in ["a", "b", "h", (1, 1), None]:
                self.check(told + (more,), 0)
            for many in range(len(told)):
                self.check(told[:many], 0)

    def test_word_of_another_count(self):
        self.check(("off", "a", "b"), 0)
        self.check(("level", "a", "b", (0, 1), (0, 1)), 0)
        self.check(("level", "z", "z", "z"), 0)

    def test_a_list_for_the_tuple(self):
        for word in SIGNS:
            self.check(list(whole(word)), 0)

    def test_places_that_are_not_so(self):
        for word, signs in SIGNS.items():
            for at, sign in enumerate(signs, 1):
                if sign == "P":
                    for part in NONE + ["h", "t.k", "s", "north"]:
                        self.check(with_part(whole(word), at, part), at)
                    for part in ["t.u", "t.c", "east", "pin"]:
                        self.check(with_part(whole(word), at, part), None)

    def test_hoops_that_are_not_so(self):
        for word, signs in SIGNS.items():
            for at, sign in enumerate(signs, 1):
                if sign == "H":
                    for part in NONE + ["a", "t", "t.u.d", "s"]:
                        self.check(with_part(whole(word), at, part), at)
                    self.check(with_part(whole(word), at, "north"), None)

    def test_fractions_that_are_not_so(self):
        for word, signs in SIGNS.items():
            for at, sign in enumerate(signs, 1):
                if sign == "N":
                    for part in [(2, 4), (0, 2), (1, 0), (1, -2), (True, 1), (1, True), (False, 1), [1, 2], 1, True, None,
                                 "1", "1/2", "a", (1,), (1, 2, 1), ()]:
                        self.check(with_part(whole(word), at, part), at)
                    for part in [(0, 1), (7, 1), (-1, 10 ** 50), (10 ** 50, 7)]:
                        self.check(with_part(whole(word), at, part), None)

    def test_sides(self):
        for word in ["east", "north", "west", "south"]:
            self.check(("side", "h", word, "b"), None)
        for word in ["", "East", "up", "easts", "a", "h", None, True, 0, ["east"], ("east",), (1, 1)]:
            self.check(("side", "h", word, "b"), 2)

    def test_side_may_be_the_hoops_peg(self):
        self.check(("side", "h", "east", "a"), None)

    def test_words_are_no_paths(self):
        self.check(("side", "h", "east", "east"), None)
        self.check(("side", "north", "north", "a"), None)
        self.check(("pin", "pin", (1, 1), (1, 1)), None)

    def test_fractions_may_be_alike(self):
        self.check(("off", "a", "b", (1, 1), (1, 1)), None)
        self.check(("pin", "a", (1, 1), (1, 1)), None)

    def test_there_ahead_of_it(self):
        for text, part in [
            ("level a a", 2), ("plumb t t", 2), ("off a a 1 1", 2), ("part a a b 1", 2), ("part a b a 1", 3),
            ("part a b b 1", 3), ("mirror a a b", 2), ("mirror a b a", 3), ("mirror a b b", 3), ("big h h 2", 2),
            ("part a a a 1", 2),
        ]:
            self.check(wish(text), part)

    def test_pairs(self):
        for word in ["like", "turn"]:
            for text, part in [
                ("a a b t", 2), ("a b t t", 4), ("a b a b", 4), ("a a b b", 2), ("a b b b", 4), ("a a a a", 2),
                ("a b b a", None), ("a b a t", None), ("a b t b", None), ("a b b t", None), ("a b t a", None),
                ("a b t t.c", None), ("a b z a", 3), ("a b h h", 3), ("z z a b", 1), ("a b a z", 4),
            ]:
                self.check(wish(f"{word} {text}"), part)

    def test_the_first_that_is_not_so(self):
        for told, part in [
            (("pin", "z", (2, 4), 1), 1), (("pin", "a", (2, 4), 1), 2), (("off", "a", "a", 1, 1), 2),
            (("big", "a", "a", None), 1), (("big", "h", "h", None), 2), (("side", "a", "up", "z"), 1),
            (("side", "h", "up", "z"), 2), (("reach", "h", "h"), 2), (("part", "a", "b", "a", None), 3),
        ]:
            self.check(told, part)

    def test_figures_within_one_another(self):
        for text in ["off t t.u 1 1", "level t.u.d t", "part t t.c t.u.d 1/2", "mirror t.c t.u.d t", "like t t.c t.c t"]:
            self.check(wish(text), None)

    def test_anything(self):
        for thing in ODD + [((),), ("pin",), (("pin", "a"),), ([],), (None,), ("",), (True, "a", "b")]:
            self.check(thing, 0)

    def test_on_the_bare_sheet(self):
        bare = built()
        for word in SIGNS:
            self.assertEqual(bad_part(bare, whole(word)), 1)
            self.assertIs(is_wish(bare, whole(word)), False)


class Handing(unittest.TestCase):
    def test_by_names(self):
        self.assertIs(bad_part(sheet=SHEET, thing=("level", "a", "b")), None)
        self.assertEqual(bad_part(thing=("level", "a", "z"), sheet=SHEET), 2)
        self.assertIs(is_wish(sheet=SHEET, thing=("level", "a", "b")), True)

    def test_nothing_is_changed(self):
        before = all_of(SHEET)
        thing = ["pin", ["a"], {}, (1, [2])]
        bad_part(SHEET, thing)
        bad_part(SHEET, ("pin", thing, q(1), q(1)))
        self.assertEqual(thing, ["pin", ["a"], {}, (1, [2])])
        self.assertEqual(all_of(SHEET), before)


if __name__ == "__main__":
    unittest.main()
