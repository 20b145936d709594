"""Promise 2: NAMEs and PATHs, asked of anything."""

import unittest

from pegwishes.paths import is_name, is_path, is_within, tray_of
from things import ODD


class Names(unittest.TestCase):
    def test_names(self):
        for name in ["a", "z", "abcdefgh", "zzzzzzzz", "peg", "tray"]:
            self.assertIs(is_name(name), True)
            self.assertIs(is_path(name), True)

    def test_none(self):
        for name in [
            "", "A", "aB", "abcdefghi", "a1", "1", "a ", " a", "a b", "a-b", "a_b", "a\n", "\u00e9", "\u0430", "\u00df", "\uff41", ".", "-",
            "a\u0301", "\u00aa",
        ]:
            self.assertIs(is_name(name), False, name)
            self.assertIs(is_path(name), False, name)
        self.assertIs(is_name("a.b"), False)

    def test_anything(self):
        for thing in ODD:
            told = thing in ("r", "abc")
            self.assertIs(is_name(thing), told)
            self.assertIs(is_path(thing), told)


class Paths(unittest.TestCase):
    def test_paths(self):
        for path in ["a.b", "a.b.c", "abcdefgh.abcdefgh.abcdefgh", "a.a.a"]:
            self.assertIs(is_path(path), True)

    def test_none(self):
        for path in ["a.", ".a", "a..b", "a.b.", ".a.b", "a.b.c.d", "a.B", "a.b.c.", "..", "a. b", "a.abcdefghi", "a.b\n", "a.1", "a,b"]:
            self.assertIs(is_path(path), False, path)

    def test_trays(self):
        self.assertEqual([tray_of(path) for path in ["a", "a.b", "a.b.c"]], ["", "a", "a.b"])

    def test_within(self):
        for path, tray, told in [
            ("a.b", "a", True), ("a.b.c", "a", True), ("a.b.c", "a.b", True), ("a", "a", False), ("aa.b", "a", False), ("aa", "a", False),
            ("a", "a.b", False), ("b.a", "a", False), ("a.bb", "a.b", False),
        ]:
            self.assertIs(is_within(path, tray), told)


if __name__ == "__main__":
    unittest.main()
